/- Contracts and facts that the claim's proof wants (several texts in one). -/
import Derived.WalkKit
import Derived.Test.YtkgaeamdhhceiaaGreatDoorChecked
import Derived.WalkLawsBesides
import Derived.WalkSpells
import Derived.Outline
import Derived.Laws.BitsAllLaws
import Derived.Laws.BitsLemmas
import Derived.LoopTactic
import Derived.Lib.Hide
import Derived.RangeFuncNested
import Derived.RangeFuncBound
import Derived.RangeFuncCalls
import Derived.RangeFuncLeaves
import Derived.Shelf.Abstract
import Derived.Shelf.RegionOpen
import Derived.OwnWalkIn
import Derived.TacticsInMore
import Derived.LoopNIn
import Derived.LoopIn
import Derived.RangeFuncBox
import Derived.Handy
import Derived.ChangeKeysEq
namespace Go.Proofs.YtkgaeamdhhceiaaGreatDoor
open Go.RowKit
set_option linter.unusedVariables false
set_option linter.unusedSimpArgs false
set_option maxRecDepth 20000
set_option maxHeartbeats 20000000
def isM (b n:Int):Bool:=decide (0≤n)&&(decide (n < 8)&&decide (b / 2 ^ n.toNat%2=1))
def JO (b n:Int)(on:Bool):Int:=if 0≤n∧n < 8 then (if isM b n then (if on then b else b-2 ^ n.toNat) else (if on then b+2 ^ n.toNat else b)) else b
def Q0 (b:Int):Nat→Int
 | 0=>0
 | k+1=>Q0 b k+if isM b k then 1 else 0
def qG (b:Int):Bool:=Q0 b 8%2==0
def JR (b:Int):Int:=if b < 128 then b else b-256
def QA5 (b by_:Int):Nat→Int
 | 0=>0
 | k+1=>QA5 b by_ k+if isM b k then 2 ^ (((k:Int)+by_)%8).toNat else 0
def Xx (b by_:Int):Int:=QA5 b by_ 8
def Qt (b:Int)(k:Nat):List (Fin 8):=((List.finRange 8).take k).filter (fun n=>isM b (n.val:Int))
theorem QID (b:Int)(k:Nat)(h:k < 8)(y:isM b (k:Int)=true):Qt b (k+1)=Qt b k++[⟨k,h⟩]:=by
 unfold Qt
 rw[List.take_succ_eq_append_getElem (by simpa using h),List.filter_append]
 simp[y]
theorem QIv (b:Int)(k:Nat)(h:k < 8)(y:isM b (k:Int)=false):Qt b (k+1)=Qt b k:=by
 unfold Qt
 rw[List.take_succ_eq_append_getElem (by simpa using h),List.filter_append]
 simp[y]
theorem QEO (b:Int)(k:Nat):(Qt b k).length≤k:=by
 unfold Qt
 exact Nat.le_trans (List.length_filter_le _ _) (List.length_take_le _ _)
theorem QI {P:Int→Prop}(h:∀ x:Fin 256,P (x.val:Int))(b:Int)(h0:0≤b)(h1:b≤255):P b:=by
 have:=h ⟨b.toNat,by omega⟩
 simpa [Int.toNat_of_nonneg h0] using this
theorem QBp {P:Int→Prop}(h:∀ x:Fin 8,P (x.val:Int))(n:Int)(h0:0≤n)(h1:n < 8):P n:=by
 have:=h ⟨n.toNat,by omega⟩
 simpa [Int.toNat_of_nonneg h0] using this
def QAP (l:List (Fin 8)):Bool:=l.foldl (fun e _=>!e) true
def ZY (left:Int)(l:List (Fin 8)):Int:=l.foldl (fun t n=>JO t (((n.val:Int)+left)%8) true) 0
theorem QH6 (b:Int)(h0:0≤b)(h1:b≤255):QAP (Qt b 8)=qG b :=
 QI (P:=fun b=>QAP (Qt b 8)=qG b) (by decide +kernel) b h0 h1
theorem QFS (b by_:Int):∀ k,QA5 b by_ k=QA5 b (by_%8) k
 | 0=>rfl
 | k+1=>by
   have e:((k:Int)+by_%8)%8=((k:Int)+by_)%8:=by omega
   simp only[QA5,QFS b by_ k,e]
theorem QH2:∀ (x:Fin 256) (y:Fin 8),ZY (y.val:Int) (Qt (x.val:Int) 8)=Xx (x.val:Int) (y.val:Int):=by decide +kernel
theorem QIL (b by_:Int)(h0:0≤b)(h1:b≤255):ZY (by_%8) (Qt b 8)=Xx b by_:=by
 unfold Xx
 rw[QFS]
 exact QBp (P:=fun y=>ZY y (Qt b 8)=Xx b y) (fun y=>QI (P:=fun b=>ZY (y.val:Int) (Qt b 8)=Xx b (y.val:Int)) (fun x=>QH2 x y) b h0 h1) (by_%8) (by omega) (by omega)
theorem QOE:∀ (x:Fin 256) (y:Fin 8),0≤Xx (x.val:Int) (y.val:Int)∧Xx (x.val:Int) (y.val:Int)≤255:=by decide +kernel
theorem Xj (b by_:Int)(h0:0≤b)(h1:b≤255):0≤Xx b by_∧Xx b by_≤255:=by
 unfold Xx
 rw[QFS]
 exact QBp (P:=fun y=>0≤Xx b y∧Xx b y≤255) (fun y=>QI (P:=fun b=>0≤Xx b (y.val:Int)∧Xx b (y.val:Int)≤255) (fun x=>QOE x y) b h0 h1) (by_%8) (by omega) (by omega)
theorem QNw:∀ (x:Fin 256) (y:Fin 8) (on:Bool),0≤JO (x.val:Int) (y.val:Int) on∧JO (x.val:Int) (y.val:Int) on≤255:=by decide +kernel
theorem QCS (b n:Int)(on:Bool)(h0:0≤b)(h1:b≤255):0≤JO b n on∧JO b n on≤255:=by
 by_cases h:0≤n∧n < 8
 · exact QBp (P:=fun y=>0≤JO b y on∧JO b y on≤255) (fun y=>QI (P:=fun b=>0≤JO b (y.val:Int) on∧JO b (y.val:Int) on≤255) (fun x=>QNw x y on) b h0 h1) n h.1 h.2
 · unfold JO;rw[if_neg h];exact⟨h0,h1⟩
def B8 (x:Int):Prop:=0≤x∧x≤255
theorem B8.lo {b:Int}(h:B8 b):0≤b:=h.1
theorem B8.hi {b:Int}(h:B8 b):b≤255:=h.2
theorem B8.with {b:Int}(h:B8 b)(n:Int)(on:Bool):B8 (JO b n on):=QCS b n on h.1 h.2
theorem B8.zero:B8 0:=⟨by omega,by omega⟩
def mkM (b0 b1 b2 b3 b4 b5 b6 b7:Bool):Int :=
 JO (JO (JO (JO (JO (JO (JO (JO 0 7 b0) 6 b1) 5 b2) 4 b3) 3 b4) 2 b5) 1 b6) 0 b7
theorem Qj (b0 b1 b2 b3 b4 b5 b6 b7:Bool):B8 (mkM b0 b1 b2 b3 b4 b5 b6 b7) :=
 (((((((B8.zero.with 7 b0).with 6 b1).with 5 b2).with 4 b3).with 3 b4).with 2 b5).with 1 b6).with 0 b7
theorem ZE:∀ b0 b1 b2 b3 b4 b5 b6 b7:Bool,isM (mkM b0 b1 b2 b3 b4 b5 b6 b7) 7=b0∧isM (mkM b0 b1 b2 b3 b4 b5 b6 b7) 6=b1∧isM (mkM b0 b1 b2 b3 b4 b5 b6 b7) 5=b2∧isM (mkM b0 b1 b2 b3 b4 b5 b6 b7) 4=b3 ∧
 isM (mkM b0 b1 b2 b3 b4 b5 b6 b7) 3=b4∧isM (mkM b0 b1 b2 b3 b4 b5 b6 b7) 2=b5∧isM (mkM b0 b1 b2 b3 b4 b5 b6 b7) 1=b6∧isM (mkM b0 b1 b2 b3 b4 b5 b6 b7) 0=b7:=by decide +kernel
def jS (f cond:Int):Bool :=
 if cond=0 then !isM f 6 else if cond=1 then isM f 6 else if cond=2 then !isM f 0 else if cond=3 then isM f 0 else
 if cond=4 then !isM f 2 else if cond=5 then isM f 2 else if cond=6 then !isM f 7 else if cond=7 then isM f 7 else false
def JD (r:Int):Int:=mkM (isM r 7) (r==0) (isM r 5) false (isM r 3) false false false
def Js (r:Int):Int:=mkM (isM r 7) (r==0) (isM r 5) false (isM r 3) (qG r) false false
def sel (m a b:Bool):Bool:=if m then b else a
def Xo (f old mask:Int):Int :=
 mkM (sel (isM mask 7) (isM f 7) (isM old 7)) (sel (isM mask 6) (isM f 6) (isM old 6)) (sel (isM mask 5) (isM f 5) (isM old 5)) (sel (isM mask 4) (isM f 4) (isM old 4))
  (sel (isM mask 3) (isM f 3) (isM old 3)) (sel (isM mask 2) (isM f 2) (isM old 2)) (sel (isM mask 1) (isM f 1) (isM old 1)) (sel (isM mask 0) (isM f 0) (isM old 0))
theorem QD (r:Int):B8 (JD r):=Qj ..
theorem J4 (r:Int):B8 (Js r):=Qj ..
theorem QK1 (f old mask:Int):B8 (Xo f old mask):=Qj ..
def fx (c:Int):Int:=c / 64
def fy (c:Int):Int:=c / 8%8
def fz (c:Int):Int:=c%8
def fp (c:Int):Int:=c / 16%4
def fq (c:Int):Int:=c / 8%2
def QLd (x y z:Int):Bool:=if x=0 then z==6||(z==0&&decide (2≤y)) else x==3&&(z==6||(z==3&&(y==2||y==3)))
def twoB (x y z p q:Int):Bool:=if x=0 then (z==1&&q==0)||(z==2&&decide (4≤y)) else x==3&&(z==2||(z==3&&y==0)||z==4||(z==5&&q==1&&p==0))
def QMh (c:Int):Int:=if QLd (fx c) (fy c) (fz c) then 1 else if twoB (fx c) (fy c) (fz c) (fp c) (fq c) then 2 else 0
def QL3 (c:Int):Int:=if fx c=1∧fz c=3 then 2 else 0
def QHK (plane c:Int):Int:=if plane=0∨plane=3∨plane=4 then QMh c else if plane=2 then QL3 c else 0
def qW (c:Int):Bool:=if fx c=0 then fy c==6&&(decide (4≤fz c)&&decide (fz c≤6)) else if fx c=1 then (fy c==6) != (fz c==6) else if fx c=2 then fz c==6 else false
def zt (plane:Int):Bool:=plane==5||plane==6
def Xa (plane c:Int):Bool:=if plane=3∨plane=4 then qW c else zt plane
theorem QOb (c:Int):0≤QMh c∧QMh c≤2:=by
 unfold QMh
 split
 · omega
 · split<;>omega
theorem QP0 (c:Int):0≤QL3 c∧QL3 c≤2:=by
 unfold QL3
 split<;>omega
theorem QJX (plane c:Int):0≤QHK plane c∧QHK plane c≤2:=by
 have h1:=QOb c
 have h2:=QP0 c
 unfold QHK
 split
 · exact h1
 · split
   · exact h2
   · omega
structure OpM where
 plane:Int
 code:Int
 disp:Int
 imm:Int
 len:Int
 skip:Int
def gb (xs:List Int)(i:Nat):Int:=xs.getD i 0
def QCF (c:Int):Bool:=c==221||c==253
def lead:List Int→Nat
 | []=>0
 | x :: xs=>if QCF x then lead xs+1 else 0
def QEU (xs:List Int)(m:Nat):Int:=if m=0 then 0 else if gb xs (m-1)=221 then 3 else 4
def QSH (p:Int):Int:=if p=3 then 5 else if p=4 then 6 else 1
def QBL (p c:Int):Int:=if c=203 then QSH p else if c=237 then 2 else p
def QJI (g:Nat→Int)(m:Nat)(p:Int):Int:=if zt (QBL p (g m)) then g (m+2) else if g m=203∨g m=237 then g (m+1) else g m
def QWB (g:Nat→Int)(m:Nat)(p:Int):Int:=if zt (QBL p (g m)) then g (m+1) else if g m=203∨g m=237 then 0 else if Xa p (g m) then g (m+1) else 0
def QWV (p s c:Int):Int:=if c=237∧p≠0 then s+1 else s
def QDF (g:Nat→Int)(m:Nat)(p:Int):Nat:=if zt (QBL p (g m)) then m+3 else if g m=203∨g m=237 then m+2 else if Xa p (g m) then m+2 else m+1
def immM (g:Nat→Int)(r:Nat)(n:Int):Int:=if n=0 then 0 else if n=1 then g r else 256*g (r+1)+g r
def opAt (g:Nat→Int)(m:Nat)(p s:Int):OpM :=
 let q:=QBL p (g m)
 let c:=QJI g m p
 let r:=QDF g m p
 let n:=QHK q c
 ⟨q,c,QWB g m p,immM g r n,(r:Int)+n,QWV p s (g m)⟩
def QRy (xs:List Int):OpM:=opAt (gb xs) (lead xs) (QEU xs (lead xs)) ((lead xs-1:Nat):Int)
def lenOf (xs:List Int):Nat:=(QRy xs).len.toNat
def okM (xs:List Int):Bool:=decide (lenOf xs≤xs.length)
def Bytes8 (xs:List Int):Prop:=∀ x∈xs,B8 x
theorem QR9 (xs:List Int):lead xs≤xs.length:=by
 induction xs with
 | nil=>exact Nat.le_refl _
 | cons x xs ih=>unfold lead;split<;>simp<;>omega
theorem QF9 (xs:List Int)(j:Nat)(hj:j < lead xs):QCF (gb xs j)=true:=by
 induction xs generalizing j with
 | nil=>unfold lead at hj;omega
 | cons x xs ih =>
   unfold lead at hj
   split at hj
   · rename_i hx
     cases j with
     | zero=>exact hx
     | succ j=>exact ih j (by omega)
   · omega
theorem QNX (g:Nat→Int)(m:Nat)(p:Int):m+1≤QDF g m p∧QDF g m p≤m+3:=by
 unfold QDF;split<;>(try split)<;>(try split)<;>omega
theorem QOe (xs:List Int):(QRy xs).len=(lenOf xs:Int):=by
 have k:=QJX (QBL (QEU xs (lead xs)) (gb xs (lead xs))) (QJI (gb xs) (lead xs) (QEU xs (lead xs)))
 have e:(QRy xs).len=(QDF (gb xs) (lead xs) (QEU xs (lead xs)):Int)+QHK (QBL (QEU xs (lead xs)) (gb xs (lead xs))) (QJI (gb xs) (lead xs) (QEU xs (lead xs))):=rfl
 unfold lenOf
 omega
theorem QJo (xs:List Int):lead xs < lenOf xs:=by
 have k:=QJX (QBL (QEU xs (lead xs)) (gb xs (lead xs))) (QJI (gb xs) (lead xs) (QEU xs (lead xs)))
 have e:(QRy xs).len=(QDF (gb xs) (lead xs) (QEU xs (lead xs)):Int)+QHK (QBL (QEU xs (lead xs)) (gb xs (lead xs))) (QJI (gb xs) (lead xs) (QEU xs (lead xs))):=rfl
 have h:=QNX (gb xs) (lead xs) (QEU xs (lead xs))
 have:=QOe xs
 omega
theorem QGW (x:Int)(xs:List Int)(h:QCF x=true):lead (x :: xs)=lead xs+1:=by
 show (if QCF x then lead xs+1 else 0)=_
 rw[if_pos h]
theorem QC0 (x:Int)(xs:List Int)(h:QCF x=false):lead (x :: xs)=0:=by
 show (if QCF x then lead xs+1 else 0)=_
 rw[h];rfl
structure Cy where
 kind:Int
 addr:Int
 data:Int
 t:Int
deriving DecidableEq
inductive Tr (α:Type) where
 | done (a:α):Tr α
 | ask (c:Cy) (k:Int→Tr α):Tr α
def Tr.bind {α β:Type}:Tr α→(α→Tr β)→Tr β
 | .done a,f=>f a
 | .ask c k,f=>.ask c (fun b=>(k b).bind f)
def Tr.run {α:Type}:Tr α→List Int→Except Cy (α×List Int)
 | .done a,xs=>.ok (a,xs)
 | .ask c _,[]=>.error c
 | .ask _ k,b :: bs=>(k b).run bs
theorem Tr.bind_done {α β:Type}(a:α)(f:α→Tr β):(Tr.done a).bind f=f a:=rfl
theorem Tr.run_done {α:Type}(a:α)(xs:List Int):(Tr.done a).run xs=.ok (a,xs):=by unfold Tr.run;rfl
theorem Tr.run_nil {α:Type}(c:Cy)(k:Int→Tr α):(Tr.ask c k).run []=.error c:=rfl
theorem Tr.run_cons {α:Type}(c:Cy)(k:Int→Tr α)(b:Int)(bs:List Int):(Tr.ask c k).run (b :: bs)=(k b).run bs:=rfl
theorem Tr.run_bind {α β:Type}(t:Tr α)(f:α→Tr β):∀ xs,(t.bind f).run xs=match t.run xs with|.ok (a,ys)=>(f a).run ys|.error c=>.error c:=by
 induction t with
 | done a=>intro xs;rw[Tr.run_done];rfl
 | ask c k ih =>
   intro xs
   cases xs with
   | nil=>rfl
   | cons b bs=>exact ih b bs
theorem Tr.run_bind_ok {α β:Type} {t:Tr α} {xs ys:List Int} {a:α}(h:t.run xs=.ok (a,ys))(f:α→Tr β):(t.bind f).run xs=(f a).run ys:=by rw[Tr.run_bind,h]
theorem Tr.run_bind_error {α β:Type} {t:Tr α} {xs:List Int} {c:Cy}(h:t.run xs=.error c)(f:α→Tr β):(t.bind f).run xs=.error c:=by rw[Tr.run_bind,h]
structure Zs where
 pos:Nat
 lacks:Bool
 asked:Cy
def Tr.runZ {α:Type}(xs:List Int):Tr α→Zs→α×Zs
 | .done a,z=>(a,z)
 | .ask c k,z=>if z.lacks then (k 0).runZ xs z else if xs.length≤z.pos then (k 0).runZ xs { z with lacks:=true,asked:=c } else (k (xs.getD z.pos 0)).runZ xs { z with pos:=z.pos+1 }
theorem Tr.runZ_bind {α β:Type}(xs:List Int)(t:Tr α)(f:α→Tr β):∀ z,(t.bind f).runZ xs z=(f (t.runZ xs z).1).runZ xs (t.runZ xs z).2:=by
 induction t with
 | done a=>intro z;rfl
 | ask c k ih =>
   intro z
   simp only[Tr.bind,Tr.runZ]
   split
   · exact ih _ _
   split
   · exact ih _ _
   · exact ih _ _
theorem Tr.runZ_lacks {α:Type}(xs:List Int)(t:Tr α):∀ z,z.lacks=true→(t.runZ xs z).2=z:=by
 induction t with
 | done a=>intro z _;rfl
 | ask c k ih =>
   intro z h
   simp only[Tr.runZ,h,if_true]
   exact ih _ _ h
theorem Tr.runZ_run {α:Type}(xs:List Int)(t:Tr α):∀ z,z.lacks=false→z.pos≤xs.length →
 match t.run (xs.drop z.pos) with
 | .ok (a,ys)=>(t.runZ xs z).1=a∧(t.runZ xs z).2.lacks=false∧(t.runZ xs z).2.asked=z.asked∧ys=xs.drop (t.runZ xs z).2.pos∧(t.runZ xs z).2.pos≤xs.length
 | .error c=>(t.runZ xs z).2.lacks=true∧(t.runZ xs z).2.asked=c:=by
 induction t with
 | done a=>intro z h hp;rw[Tr.run_done];exact⟨rfl,h,rfl,rfl,hp⟩
 | ask c k ih =>
   intro z h hp
   by_cases hl:xs.length≤z.pos
   · rw[show xs.drop z.pos=[] from List.drop_eq_nil_of_le hl,Tr.run_nil]
     simp only[Tr.runZ,h,hl,if_true,Bool.false_eq_true,if_false]
     rw[Tr.runZ_lacks _ _ _ rfl]
     exact⟨rfl,rfl⟩
   · have hlt:z.pos < xs.length:=by omega
     rw[List.drop_eq_getElem_cons hlt,Tr.run_cons]
     simp only[Tr.runZ,h,hl,if_false,Bool.false_eq_true]
     have e:xs.getD z.pos 0=xs[z.pos]:=by rw[List.getD_eq_getElem?_getD,List.getElem?_eq_getElem hlt];rfl
     rw[e]
     exact ih _ { z with pos:=z.pos+1,lacks:=false } rfl (by show z.pos+1≤xs.length;omega)
def Tr.All {α:Type}(C:Cy→Prop)(P:α→Prop):Tr α→Prop
 | .done a=>P a
 | .ask c k=>C c∧∀ b,B8 b→(k b).All C P
theorem Tr.All.bind {α β:Type} {C:Cy→Prop} {P:α→Prop} {Q:β→Prop} {t:Tr α} {f:α→Tr β}(h:t.All C P)(hf:∀ a,P a→(f a).All C Q):(t.bind f).All C Q:=by
 induction t with
 | done a=>exact hf a h
 | ask c k ih=>exact⟨h.1,fun b hb=>ih b (h.2 b hb)⟩
theorem Tr.All.mono {α:Type} {C:Cy→Prop} {P Q:α→Prop} {t:Tr α}(h:t.All C P)(hPQ:∀ a,P a→Q a):t.All C Q:=by
 induction t with
 | done a=>exact hPQ a h
 | ask c k ih=>exact⟨h.1,fun b hb=>ih b (h.2 b hb)⟩
theorem Bytes8.tail {b:Int} {bs:List Int}(h:Bytes8 (b :: bs)):Bytes8 bs:=fun x hx=>h x (List.mem_cons_of_mem _ hx)
theorem Bytes8.head {b:Int} {bs:List Int}(h:Bytes8 (b :: bs)):B8 b:=h b List.mem_cons_self
theorem Tr.All.ok {α:Type} {C:Cy→Prop} {P:α→Prop} {t:Tr α}(h:t.All C P):∀ {xs ys:List Int} {a:α},Bytes8 xs→t.run xs=.ok (a,ys)→P a∧Bytes8 ys:=by
 induction t with
 | done a =>
   intro xs ys a' hx e
   rw[Tr.run_done] at e
   injection e with e;injection e with e1 e2;subst e1;subst e2
   exact⟨h,hx⟩
 | ask c k ih =>
   intro xs ys a' hx e
   cases xs with
   | nil=>cases e
   | cons b bs=>exact ih b (h.2 b hx.head) hx.tail e
theorem Tr.All.error {α:Type} {C:Cy→Prop} {P:α→Prop} {t:Tr α}(h:t.All C P):∀ {xs:List Int} {c:Cy},Bytes8 xs→t.run xs=.error c→C c:=by
 induction t with
 | done a=>intro xs c hx e;rw[Tr.run_done] at e;cases e
 | ask c k ih =>
   intro xs c' hx e
   cases xs with
   | nil=>rw[Tr.run_nil] at e;injection e with e;exact e▸h.1
   | cons b bs=>exact ih b (h.2 b hx.head) hx.tail e
theorem Bytes8.getD {xs:List Int}(h:Bytes8 xs)(n:Nat):B8 (xs.getD n 0):=by
 by_cases hn:n < xs.length
 · rw[List.getD_eq_getElem?_getD,List.getElem?_eq_getElem hn]
   exact h _ (List.getElem_mem hn)
 · rw[List.getD_eq_getElem?_getD,List.getElem?_eq_none (by omega)]
   exact B8.zero
theorem Tr.All.z {α:Type} {C:Cy→Prop} {P:α→Prop} {t:Tr α}(h:t.All C P){xs:List Int}(hx:Bytes8 xs):∀ z,P (t.runZ xs z).1:=by
 induction t with
 | done a=>intro z;exact h
 | ask c k ih =>
   intro z
   simp only[Tr.runZ]
   split
   · exact ih _ (h.2 _ B8.zero) _
   split
   · exact ih _ (h.2 _ B8.zero) _
   · exact ih _ (h.2 _ (hx.getD _)) _
def Tr.Same {α:Type}:Tr α→Tr α→Prop
 | .done a,.done b=>a=b
 | .ask c k,.ask d l=>c=d∧∀ b,B8 b→(k b).Same (l b)
 | _,_=>False
theorem Tr.Same.refl {α:Type}(t:Tr α):t.Same t:=by
 induction t with
 | done a=>exact rfl
 | ask c k ih=>exact⟨rfl,fun b _=>ih b⟩
theorem Tr.Same.run {α:Type} {t:Tr α}:∀ {u:Tr α} {xs:List Int},t.Same u→Bytes8 xs→t.run xs=u.run xs:=by
 induction t with
 | done a =>
   intro u xs h hx
   cases u with
   | done b=>cases h;rfl
   | ask d l=>exact h.elim
 | ask c k ih =>
   intro u xs h hx
   cases u with
   | done b=>exact h.elim
   | ask d l =>
     cases xs with
     | nil=>rw[Tr.run_nil,Tr.run_nil,h.1]
     | cons b bs=>exact ih b (h.2 b hx.head) hx.tail
theorem Tr.Same.bind {α β:Type} {f g:α→Tr β} {C:Cy→Prop} {P:α→Prop} {t:Tr α}:∀ {u:Tr α},t.Same u→t.All C P→(∀ a,P a→(f a).Same (g a))→(t.bind f).Same (u.bind g):=by
 induction t with
 | done a =>
   intro u h hp hf
   cases u with
   | done b=>cases h;exact hf a hp
   | ask d l=>exact h.elim
 | ask c k ih =>
   intro u h hp hf
   cases u with
   | done b=>exact h.elim
   | ask d l=>exact⟨h.1,fun b hb=>ih b (h.2 b hb) (hp.2 b hb) hf⟩
structure Rg where
 af:Int
 bc:Int
 de:Int
 hl:Int
 af2:Int
 bc2:Int
 de2:Int
 hl2:Int
 ix:Int
 iy:Int
 sp:Int
 pc:Int
 wz:Int
 i:Int
 r:Int
 iff1:Bool
 iff2:Bool
 halted:Bool
 late:Bool
 mode:Int
deriving DecidableEq
@[reducible] def JH (g:Rg):Array Value:=#[.int .u16 g.af,.int .u16 g.bc,.int .u16 g.de,.int .u16 g.hl,.int .u16 g.af2,.int .u16 g.bc2,.int .u16 g.de2,.int .u16 g.hl2,.int .u16 g.ix,.int .u16 g.iy,.int .u16 g.sp,.int .u16 g.pc,.int .u16 g.wz,
 .int .u8 g.i,.int .u8 g.r,.bool g.iff1,.bool g.iff2,.bool g.halted,.bool g.late,.int .i64 g.mode]
@[reducible] def zL:Array Value:=#[.int .u16 0,.int .u16 0,.int .u16 0,.int .u16 0,.int .u16 0,.int .u16 0,.int .u16 0,.int .u16 0,.int .u16 0,.int .u16 0,.int .u16 0,.int .u16 0,.int .u16 0,.int .u8 0,.int .u8 0,.bool false,.bool false,.bool false,.bool false,.int .i64 0]
@[reducible] def JG (g:Rg):Value:=.agg (JH g)
def Wd16 (x:Int):Prop:=0≤x∧x≤65535
theorem Wd16.hi {x:Int}(h:Wd16 x):B8 (x / 256):=⟨by have:=h.1;omega,by have:=h.2;omega⟩
theorem Wd16.lo8 {x:Int}(h:Wd16 x):B8 (x%256):=⟨by omega,by omega⟩
theorem Wd16.mk8 {a b:Int}(ha:B8 a)(hb:B8 b):Wd16 (256*a+b):=⟨by have:=ha.1;have:=hb.1;omega,by have:=ha.2;have:=hb.2;omega⟩
theorem Wd16.zero:Wd16 0:=⟨by omega,by omega⟩
structure RgB (g:Rg):Prop where
 af:Wd16 g.af
 bc:Wd16 g.bc
 de:Wd16 g.de
 hl:Wd16 g.hl
 af2:Wd16 g.af2
 bc2:Wd16 g.bc2
 de2:Wd16 g.de2
 hl2:Wd16 g.hl2
 ix:Wd16 g.ix
 iy:Wd16 g.iy
 sp:Wd16 g.sp
 pc:Wd16 g.pc
 wz:Wd16 g.wz
 i:B8 g.i
 r:B8 g.r
 mode:-9223372036854775808≤g.mode∧g.mode≤9223372036854775807
def Jo (g:Rg)(plane p:Int):Int :=
 if p=0 then g.bc else if p=1 then g.de else if p=2 then (if plane=3 then g.ix else if plane=4 then g.iy else g.hl) else if p=3 then g.sp else 0
def QE (g:Rg)(plane p w:Int):Rg :=
 if p=0 then { g with bc:=w } else if p=1 then { g with de:=w } else
 if p=2 then (if plane=3 then { g with ix:=w } else if plane=4 then { g with iy:=w } else { g with hl:=w }) else if p=3 then { g with sp:=w } else g
def zO (g:Rg)(plane k:Int):Int :=
 if k=7 then g.af / 256 else if k < 0∨5 < k then 0 else if k%2=0 then Jo g plane (k / 2) / 256 else Jo g plane (k / 2)%256
def QCz (g:Rg)(plane k b:Int):Rg :=
 if k=7 then { g with af:=256*b+g.af%256 } else if k < 0∨5 < k then g else
 if k%2=0 then QE g plane (k / 2) (256*b+Jo g plane (k / 2)%256) else QE g plane (k / 2) (256*(Jo g plane (k / 2) / 256)+b)
def QLT (g:Rg):Rg:={ g with bc:=g.bc2,de:=g.de2,hl:=g.hl2,bc2:=g.bc,de2:=g.de,hl2:=g.hl }
def QF6 (g:Rg):Rg:={ g with af:=g.af2,af2:=g.af }
def QE4 (r n:Int):Int:=r / 128*128+(r+n)%128
def Zm (g:Rg)(n:Int):Rg:={ g with r:=QE4 g.r n }
theorem RgB.pair {g:Rg}(h:RgB g)(plane p:Int):Wd16 (Jo g plane p):=by
 unfold Jo
 repeat' split
 all_goals first|exact h.bc|exact h.de|exact h.ix|exact h.iy|exact h.hl|exact h.sp|exact Wd16.zero
theorem RgB.setPair {g:Rg}(h:RgB g)(plane p:Int){w:Int}(hw:Wd16 w):RgB (QE g plane p w):=by
 obtain⟨h1,h2,h3,h4,h5,h6,h7,h8,h9,h10,h11,h12,h13,h14,h15,h16⟩:=h
 unfold QE
 repeat' split
 all_goals constructor<;>assumption
theorem QMT (g:Rg)(plane k:Int)(h:k < 0∨k=6∨7 < k):zO g plane k=0:=by
 unfold zO
 rw[if_neg (by omega),if_pos (by omega)]
theorem QL5 (g:Rg)(plane k b:Int)(h:k < 0∨k=6∨7 < k):QCz g plane k b=g:=by
 unfold QCz
 rw[if_neg (by omega),if_pos (by omega)]
theorem RgB.get {g:Rg}(h:RgB g)(plane k:Int):B8 (zO g plane k):=by
 unfold zO
 repeat' split
 · exact h.af.hi
 · exact B8.zero
 · exact (h.pair ..).hi
 · exact (h.pair ..).lo8
theorem RgB.set {g:Rg}(h:RgB g)(plane k:Int){b:Int}(hb:B8 b):RgB (QCz g plane k b):=by
 unfold QCz
 split
 · have h':=Wd16.mk8 hb h.af.lo8
   obtain⟨h1,h2,h3,h4,h5,h6,h7,h8,h9,h10,h11,h12,h13,h14,h15,h16⟩:=h
   constructor<;>assumption
 split
 · exact h
 split
 · exact h.setPair _ _ (Wd16.mk8 hb (h.pair ..).lo8)
 · exact h.setPair _ _ (Wd16.mk8 (h.pair ..).hi hb)
theorem RgB.exx {g:Rg}(h:RgB g):RgB (QLT g):=by
 obtain⟨h1,h2,h3,h4,h5,h6,h7,h8,h9,h10,h11,h12,h13,h14,h15,h16⟩:=h
 constructor<;>assumption
theorem RgB.swap {g:Rg}(h:RgB g):RgB (QF6 g):=by
 obtain⟨h1,h2,h3,h4,h5,h6,h7,h8,h9,h10,h11,h12,h13,h14,h15,h16⟩:=h
 constructor<;>assumption
theorem QRQ {r:Int}(h:B8 r)(n:Int):B8 (QE4 r n):=by
 obtain⟨h0,h1⟩:=h
 unfold QE4
 constructor<;>omega
theorem RgB.tick {g:Rg}(h:RgB g)(n:Int):RgB (Zm g n):=by
 have h':=QRQ h.r n
 obtain⟨h1,h2,h3,h4,h5,h6,h7,h8,h9,h10,h11,h12,h13,h14,h15,h16⟩:=h
 constructor<;>assumption
theorem Qo {k:IntKind} {a b:Int}(h:a=b):Ending.returned (.int k a)=.returned (.int k b):=by rw[h]
theorem Qy {a b:Bool}(h:a=b):Ending.returned (.bool a)=.returned (.bool b):=by rw[h]
theorem Jc {a b c:World}(h:Below a.heap.size a b)(k:Below b.heap.size b c):Below a.heap.size a c:=h.trans (k.mono h.size)
theorem QRY (n:Int)(h₀:0≤n)(h₁:n < 2 ^ 16):IntKind.u16.wrap n=n:=by rw[IntKind.wrap_u16];omega
theorem QKc:∀ (x:Fin 256) (y:Fin 8),(bits BinOp.and IntKind.u8 (x.val:Int) (2 ^ (y.val:Int).toNat%256) != 0)=isM (x.val:Int) (y.val:Int):=by decide +kernel
theorem QHk (b n:Int)(h0:0≤b)(h1:b≤255)(h2:0≤n)(h3:n < 8):(bits BinOp.and IntKind.u8 b (2 ^ n.toNat%256) != 0)=isM b n :=
 QBp (P:=fun n=>(bits BinOp.and IntKind.u8 b (2 ^ n.toNat%256) != 0)=isM b n) (fun y=>QI (P:=fun b=>(bits BinOp.and IntKind.u8 b (2 ^ (y.val:Int).toNat%256) != 0)=isM b (y.val:Int)) (fun x=>QKc x y) b h0 h1) n h2 h3
theorem QL0:∀ (x:Fin 256) (y:Fin 8),bits BinOp.or IntKind.u8 (x.val:Int) (2 ^ (y.val:Int).toNat%256)=JO (x.val:Int) (y.val:Int) true:=by decide +kernel
theorem or_bit (b n:Int)(h0:0≤b)(h1:b≤255)(h2:0≤n)(h3:n < 8):bits BinOp.or IntKind.u8 b (2 ^ n.toNat%256)=JO b n true :=
 QBp (P:=fun n=>bits BinOp.or IntKind.u8 b (2 ^ n.toNat%256)=JO b n true) (fun y=>QI (P:=fun b=>bits BinOp.or IntKind.u8 b (2 ^ (y.val:Int).toNat%256)=JO b (y.val:Int) true) (fun x=>QL0 x y) b h0 h1) n h2 h3
theorem QJ5:∀ (x:Fin 256) (y:Fin 8),bits BinOp.andNot IntKind.u8 (x.val:Int) (2 ^ (y.val:Int).toNat%256)=JO (x.val:Int) (y.val:Int) false:=by decide +kernel
theorem QSt (b n:Int)(h0:0≤b)(h1:b≤255)(h2:0≤n)(h3:n < 8):bits BinOp.andNot IntKind.u8 b (2 ^ n.toNat%256)=JO b n false :=
 QBp (P:=fun n=>bits BinOp.andNot IntKind.u8 b (2 ^ n.toNat%256)=JO b n false) (fun y=>QI (P:=fun b=>bits BinOp.andNot IntKind.u8 b (2 ^ (y.val:Int).toNat%256)=JO b (y.val:Int) false) (fun x=>QJ5 x y) b h0 h1) n h2 h3
theorem QKt:∀ x:Fin 256,wrap64 (IntKind.i8.wrap (x.val:Int))=JR (x.val:Int):=by decide +kernel
theorem QIq (b n:Int)(h:n < 0∨8≤n):isM b n=false:=by
 unfold isM
 rcases h with h|h
 · rw[decide_eq_false (show ¬0≤n by omega)];rfl
 · rw[decide_eq_false (show ¬n < 8 by omega)];simp
theorem QTp (b n:Int)(h0:0≤n)(h1:n < 8):isM b n=decide (b / 2 ^ n.toNat%2=1):=by
 unfold isM
 rw[decide_eq_true h0,decide_eq_true h1];rfl
theorem zH (x:Int)(h0:0≤x)(h1:x≤65535)(w:World) :
 Calls Tryz.prog 193 #[.int .u16 x] w fun e w'=>e=.returned (.int .u8 (x%256))∧w=w':=by
 go_enter Tryz.func193,Tryz.ntmps193
 go_wp2
 go_ret
 exact⟨rfl,rfl⟩
theorem zr (x:Int)(h0:0≤x)(h1:x≤65535)(w:World) :
 Calls Tryz.prog 192 #[.int .u16 x] w fun e w'=>e=.returned (.int .u8 (x / 256))∧w=w':=by
 go_enter Tryz.func192,Tryz.ntmps192
 go_wp2
 go_ret
 exact⟨rfl,rfl⟩
theorem J6 (x y:Int)(h0:0≤x)(h1:x≤255)(h2:0≤y)(h3:y≤255)(w:World) :
 Calls Tryz.prog 121 #[.int .u8 x,.int .u8 y] w fun e w'=>e=.returned (.int .u16 (256*x+y))∧w=w':=by
 go_enter Tryz.func121,Tryz.ntmps121
 go_wp2
 go_ret
 exact⟨Qo (by rw[bits_join .u16 16 (by decide) QRY 8 (x*256) y (by omega) (by omega) (by omega) (by omega) (by omega) (by omega)];omega),rfl⟩
theorem QLk (x:Int)(h0:0≤x)(h1:x≤255)(w:World) :
 Calls Tryz.prog 295 #[.int .u8 x] w fun e w'=>e=.returned (.int .i64 (JR x))∧w=w':=by
 go_enter Tryz.func295,Tryz.ntmps295
 go_wp2
 go_ret
 exact⟨Qo (QI (P:=fun x=>wrap64 (IntKind.i8.wrap x)=JR x) QKt x h0 h1),rfl⟩
theorem QMC (n:Int)(w:World) :
 Calls Tryz.prog 275 #[.int .i64 n] w fun e w'=>e=.returned (.bool (decide (0≤n)&&decide (n < 8)))∧w=w':=by
 by_cases h:0≤n
 · go_enter Tryz.func275,Tryz.ntmps275
   go_wp2
   go_ret
   exact⟨Qy (by rw[decide_eq_true h];rfl),rfl⟩
 · go_enter Tryz.func275,Tryz.ntmps275
   go_wp2
   go_ret
   exact⟨Qy (by rw[decide_eq_false (by omega)];rfl),rfl⟩
theorem QIY (n:Int)(h0:0≤n)(h1:n < 8)(w:World) :
 Calls Tryz.prog 275 #[.int .i64 n] w fun e w'=>e=.returned (.bool true)∧w=w' :=
 (QMC n w).mono fun _ _ ⟨he,hw⟩=>⟨he.trans (Qy (by rw[decide_eq_true h0,decide_eq_true h1];rfl)),hw⟩
theorem QPQ (n:Int)(h:n < 0∨8≤n)(w:World) :
 Calls Tryz.prog 275 #[.int .i64 n] w fun e w'=>e=.returned (.bool false)∧w=w' :=
 (QMC n w).mono fun _ _ ⟨he,hw⟩=>⟨he.trans (Qy (by
   rcases h with h|h
   · rw[decide_eq_false (by omega)];rfl
   · rw[decide_eq_false (show ¬n < 8 by omega)];simp)),hw⟩
theorem Xk (b n:Int)(h0:0≤b)(h1:b≤255)(w:World) :
 Calls Tryz.prog 274 #[.int .u8 b,.int .i64 n] w fun e w'=>e=.returned (.bool (isM b n))∧w=w':=by
 by_cases h:0≤n∧n < 8
 · obtain⟨h2,h3⟩:=h
   go_enter Tryz.func274,Tryz.ntmps274
   go_wp2_with (go_at_call 275;refine (QIY _ (by omega) (by omega) _).mono ?_;rintro e w' ⟨rfl,rfl⟩)
   go_ret
   exact⟨Qy (QHk b n h0 h1 h2 h3),rfl⟩
 · have h':n < 0∨8≤n:=by omega
   clear h
   go_enter Tryz.func274,Tryz.ntmps274
   go_wp2_with (go_at_call 275;refine (QPQ _ h' _).mono ?_;rintro e w' ⟨rfl,rfl⟩)
   go_ret
   exact⟨Qy (QIq b n h').symm,rfl⟩
theorem Xc (b n:Int)(on:Bool)(h0:0≤b)(h1:b≤255)(w:World) :
 Calls Tryz.prog 227 #[.int .u8 b,.int .i64 n,.bool on] w fun e w'=>e=.returned (.int .u8 (JO b n on))∧w=w':=by
 by_cases h:0≤n∧n < 8
 · obtain⟨h2,h3⟩:=h
   cases on
   · go_enter Tryz.func227,Tryz.ntmps227
     go_wp2_with (go_at_call 275;refine (QIY _ (by omega) (by omega) _).mono ?_;rintro e w' ⟨rfl,rfl⟩)
     go_ret
     exact⟨Qo (QSt b n h0 h1 h2 h3),rfl⟩
   · go_enter Tryz.func227,Tryz.ntmps227
     go_wp2_with (go_at_call 275;refine (QIY _ (by omega) (by omega) _).mono ?_;rintro e w' ⟨rfl,rfl⟩)
     go_ret
     exact⟨Qo (or_bit b n h0 h1 h2 h3),rfl⟩
 · have h':n < 0∨8≤n:=by omega
   have e:JO b n on=b:=by unfold JO;rw[if_neg h]
   rw[e]
   clear h e
   go_enter Tryz.func227,Tryz.ntmps227
   go_wp2_with (go_at_call 275;refine (QPQ _ h' _).mono ?_;rintro e w' ⟨rfl,rfl⟩)
   go_ret
   exact⟨rfl,rfl⟩
theorem XM (x:Int)(h0:0≤x)(h1:x≤65535)(w:World) :
 Calls Tryz.prog 53 #[.int .u16 x] w fun e w'=>e=.returned (.int .u8 (x%256))∧w=w':=by
 go_enter Tryz.func53,Tryz.ntmps53
 go_wp2
 go_ret
 exact⟨rfl,rfl⟩
theorem Xp (x:Int)(h0:0≤x)(h1:x≤65535)(w:World) :
 Calls Tryz.prog 52 #[.int .u16 x] w fun e w'=>e=.returned (.int .u8 (x / 256))∧w=w':=by
 go_enter Tryz.func52,Tryz.ntmps52
 go_wp2
 go_ret
 exact⟨rfl,rfl⟩
theorem Qe (x y:Int)(h0:0≤x)(h1:x≤255)(h2:0≤y)(h3:y≤255)(w:World) :
 Calls Tryz.prog 40 #[.int .u8 x,.int .u8 y] w fun e w'=>e=.returned (.int .u16 (256*x+y))∧w=w':=by
 go_enter Tryz.func40,Tryz.ntmps40
 go_wp2
 go_ret
 exact⟨rfl,rfl⟩
theorem QA7 (x:Int)(h0:0≤x)(h1:x≤255)(w:World) :
 Calls Tryz.prog 109 #[.int .u8 x] w fun e w'=>e=.returned (.int .i64 (JR x))∧w=w':=by
 by_cases h:x < 128
 · have e:JR x=x:=if_pos h
   rw[e];clear e
   go_enter Tryz.func109,Tryz.ntmps109
   go_wp2
   go_ret
   exact⟨rfl,rfl⟩
 · have e:JR x=x-256:=if_neg h
   rw[e];clear e
   go_enter Tryz.func109,Tryz.ntmps109
   go_wp2
   go_ret
   exact⟨rfl,rfl⟩
theorem QQY (k:Nat):(2:Int) ^ (k+1)=2 ^ k*2:=Int.pow_succ 2 k
theorem QDc (k:Nat)(h:k≤8):1≤(2:Int) ^ k∧(2:Int) ^ k≤256:=by
 have:∀ k:Fin 9,1≤(2:Int) ^ k.val∧(2:Int) ^ k.val≤256:=by decide +kernel
 exact this ⟨k,by omega⟩
theorem QFu (n:Int)(h0:0≤n)(h1:n≤8)(w:World) :
 Calls Tryz.prog 141 #[.int .i64 n] w fun e w'=>e=.returned (.int .i64 (2 ^ n.toNat))∧w=w':=by
 go_enter Tryz.func141,Tryz.ntmps141
 go_wp2
 go_loop [3,4] (fun x i=>∃ k:Nat,(k:Int)≤n∧i=.int .i64 k∧x=.int .i64 (2 ^ k)) (fun _ i=>n.toNat-(intOf i).toNat)
 case atStart=>exact⟨0,by omega,rfl,rfl⟩
 case round =>
  obtain⟨k,hk,rfl,rfl⟩:=hrel
  have hb:=QDc k (by omega)
  by_cases hlt:(k:Int) < n
  · go_wp2
    go_round
    case rel=>exact⟨k+1,by omega,by go_num,by rw[QQY]⟩
    case measure=>simp[intOf];omega
  · obtain rfl:n=k:=by omega
    go_wp2
    go_ret
    exact⟨rfl,rfl⟩
theorem QRh (b n:Int)(h0:0≤n)(h1:n < 8):(b / 2 ^ n.toNat%2==1)=isM b n:=by
 rw[QTp b n h0 h1];by_cases h:b / 2 ^ n.toNat%2=1<;>simp[h]
theorem QP (b n:Int)(h0:0≤b)(h1:b≤255)(w:World) :
 Calls Tryz.prog 140 #[.int .u8 b,.int .i64 n] w fun e w'=>e=.returned (.bool (isM b n))∧w=w':=by
 by_cases h:0≤n
 · by_cases h':n < 8
   · obtain⟨k,hk,hk8⟩:∃ k:Nat,n=k∧k≤7:=⟨n.toNat,by omega,by omega⟩
     have hb:=QDc k (by omega)
     have hq:isM b n=(b / 2 ^ n.toNat%2==1):=(QRh b n h h').symm
     rw[hq]
     subst hk
     clear hq
     have hp:0 < (2:Int) ^ k:=by omega
     have hd0:0≤b / 2 ^ k:=Int.ediv_nonneg h0 (by omega)
     have hd1:b / 2 ^ k≤255:=Int.le_trans (Int.ediv_le_self _ h0) h1
     go_enter Tryz.func140,Tryz.ntmps140
     go_wp2_with (go_at_call 141;refine (QFu _ (by omega) (by omega) _).mono ?_;rintro e w' ⟨rfl,rfl⟩)
     go_ret
     exact⟨rfl,rfl⟩
   · rw[QIq b n (by omega)]
     go_enter Tryz.func140,Tryz.ntmps140
     go_wp2
     go_ret
     exact⟨rfl,rfl⟩
 · rw[QIq b n (by omega)]
   go_enter Tryz.func140,Tryz.ntmps140
   go_wp2
   go_ret
   exact⟨rfl,rfl⟩
theorem QPz (b n:Int)(on:Bool)(h0:0≤n)(h1:n < 8):JO b n on=(if isM b n then (if on then b else b-2 ^ n.toNat) else (if on then b+2 ^ n.toNat else b)):=by
 unfold JO;rw[if_pos ⟨h0,h1⟩]
theorem QR (b n:Int)(on:Bool)(h0:0≤b)(h1:b≤255)(w:World) :
 Calls Tryz.prog 92 #[.int .u8 b,.int .i64 n,.bool on] w fun e w'=>e=.returned (.int .u8 (JO b n on))∧w=w':=by
 by_cases h:0≤n
 · by_cases h':n < 8
   · have hw:=QCS b n on h0 h1
     rw[QPz b n on h h'] at hw ⊢
     obtain⟨k,hk,hk8⟩:∃ k:Nat,n=k∧k≤7:=⟨n.toNat,by omega,by omega⟩
     have hb:=QDc k (by omega)
     subst hk
     simp only[Int.toNat_natCast] at hw ⊢
     cases on<;>cases hm:isM b k<;>simp only[hm,if_true,if_false,Bool.false_eq_true] at hw ⊢
     all_goals
      go_enter Tryz.func92,Tryz.ntmps92
      go_wp2_with (first|(go_at_call 140;refine (QP _ _ h0 h1 _).mono ?_;rintro e w' ⟨rfl,rfl⟩)|(go_at_call 141;refine (QFu _ (by omega) (by omega) _).mono ?_;rintro e w' ⟨rfl,rfl⟩))
      go_ret
      exact⟨rfl,rfl⟩
   · rw[show JO b n on=b from by unfold JO;rw[if_neg (by omega)]]
     go_enter Tryz.func92,Tryz.ntmps92
     go_wp2
     go_ret
     exact⟨rfl,rfl⟩
 · rw[show JO b n on=b from by unfold JO;rw[if_neg (by omega)]]
   go_enter Tryz.func92,Tryz.ntmps92
   go_wp2
   go_ret
   exact⟨rfl,rfl⟩
theorem QBB (b:Int):∀ k:Nat,0≤Q0 b k∧Q0 b k≤k
 | 0=>⟨by simp[Q0],by simp[Q0]⟩
 | k+1=>by
   have:=QBB b k
   simp only[Q0]
   split<;>omega
theorem QNf (b:Int)(k:Nat)(h:isM b k=true):Q0 b (k+1)=Q0 b k+1:=by simp[Q0,h]
theorem QPb (b:Int)(k:Nat)(h:isM b k=false):Q0 b (k+1)=Q0 b k:=by simp[Q0,h]
theorem QKh (b:Int)(h0:0≤b)(h1:b≤255)(w:World) :
 Calls Tryz.prog 201 #[.int .u8 b] w fun e w'=>e=.returned (.int .i64 (Q0 b 8))∧w=w':=by
 go_enter Tryz.func201,Tryz.ntmps201
 go_wp2
 go_loop [3,4] (fun x i=>∃ k:Nat,k≤8∧i=.int .i64 k∧x=.int .i64 (Q0 b k)) (fun _ i=>8-(intOf i).toNat)
 case atStart=>exact⟨0,by omega,rfl,rfl⟩
 case round =>
  obtain⟨k,hk,rfl,rfl⟩:=hrel
  have hb:=QBB b k
  by_cases hlt:k < 8
  · cases hm:isM b k
    · have HS:=Lib.hid (QPb b k hm)
      go_wp2_with (go_at_call 140;refine (QP _ _ h0 h1 _).mono ?_;rintro e w' ⟨rfl,rfl⟩)
      go_round
      case rel=>exact⟨k+1,by omega,by go_num,by rw[HS.out]⟩
      case measure=>simp[intOf];omega
    · have HS:=Lib.hid (QNf b k hm)
      go_wp2_with (go_at_call 140;refine (QP _ _ h0 h1 _).mono ?_;rintro e w' ⟨rfl,rfl⟩)
      go_round
      case rel=>exact⟨k+1,by omega,by go_num,by rw[HS.out]⟩
      case measure=>simp[intOf];omega
  · obtain rfl:k=8:=by omega
    go_wp2
    go_ret
    exact⟨rfl,rfl⟩
theorem QGu (b:Int)(h0:0≤b)(h1:b≤255)(w:World) :
 Calls Tryz.prog 143 #[.int .u8 b] w fun e w'=>e=.returned (.bool (qG b))∧w=w':=by
 have hb:=QBB b 8
 go_enter Tryz.func143,Tryz.ntmps143
 go_wp2_with (go_at_call 201;refine (QKh _ h0 h1 _).mono ?_;rintro e w' ⟨rfl,rfl⟩)
 go_ret
 exact⟨rfl,rfl⟩
section
open Go.RowKit Go.Shelf
attribute [local go_sem] Oper.semAt_some
def KeepsBox (B:Nat)(W W':World):Prop:=W'.heap[B]?=W.heap[B]?
theorem QFh {B:Nat} {X Y Z:World}(h:KeepsBox B X Y)(k:KeepsBox B Y Z):KeepsBox B X Z:=Eq.trans k h
theorem QFB {B:Nat} {w:World}(hB:B < w.heap.size)(W:World)(l:Nat)(o o':Obj)(hl:w.heap.size≤l)(_:W.heap[l]?=some o)(_:o.isCells=false)(_:o.isWalk=false):KeepsBox B W (W.putObj l o') :=
 World.putObj_heap_other (by omega)
theorem QAd {B b:Nat}(hB:B≠b)(W:World)(v:Value):KeepsBox B W (W.setCell ⟨b,0,none⟩ v):=Below.heap_setCell _ _ _ B hB
theorem KeepsBox.boxed {B:Nat} {W W':World} {t:TypeId} {v:Value}(k:KeepsBox B W W')(h:Boxed W B t v):Boxed W' B t v:=Eq.trans k h
theorem QQn (n:Nat)(hn:1≤n)(l Bs:Nat)(b:Int)(h0:0≤b)(h1:b≤255)(J Jx:List (Fin 8)→World→Prop)
 (hY:∀ pre x W,J pre W→pre.length < 8→YieldAt Fence.wide (n-1) Tryz.prog l #[.int .i64 (x.val:Int)] W fun e W' =>
   (e=.returned (.bool true)∧J (pre++[x]) W'∧KeepsBox Bs W W')∨(e=.returned (.bool false)∧Jx (pre++[x]) W'))
 (W:World)(hBs:Boxed W Bs 5 (.int .u8 b))(hJ0:J [] W) :
 CallsIn Fence.wide n Tryz.prog 361 #[.func (.yield l) #[] #[],.pointer (some ⟨Bs,0,none⟩)] W fun e W'=>(∃ v,e=.returned v) ∧
  ((∃ ys,ys=Qt b 8∧J ys W')∨(∃ pre,(∃ k:Nat,k < 8∧isM b (k:Int)=true∧pre=Qt b (k+1))∧Jx pre W')):=by
 refine callsIn_of_wp Tryz.func361 rfl trivial ?_ rfl
 simp only[Tryz.ntmps361,List.size_toArray,List.length_cons,List.length_nil,Nat.reduceAdd,Nat.reduceSub,Array.replicate_succ,Array.replicate_zero,List.push_toArray,List.append_toArray,List.nil_append,List.cons_append]
 gi_wp2
 gi_loopw [4] (fun i wr=>∃ k:Nat,k≤8∧i=.int .i64 k∧J (Qt b k) wr∧Boxed wr Bs 5 (.int .u8 b))
  (fun i _=>8-(intOf i).toNat)
 case atStart=>exact⟨0,Nat.zero_le _,rfl,hJ0,hBs⟩
 case round =>
  obtain⟨k,hk,rfl,hJs,hnx⟩:=hrel
  have hcx:=hnx.cell
  by_cases hlt:k < 8
  · cases hm:isM b k
    · have HS:=Lib.hid (QIv b k hlt hm)
      gi_wp2_with (refine⟨trivial,?_⟩;gi_at_call 274;refine (callsIn_wide.2 (Xk _ _ h0 h1 _)).mono ?_;rintro e w' ⟨rfl,rfl⟩)
      refine⟨fun _ h=>(by cases h),?_⟩
      gi_wp2
      go_roundw
      case rel=>exact⟨k+1,by omega,by simp,by rw[HS.out];exact hJs,hnx⟩
      case measure=>simp[intOf];omega
    · have HS:=Lib.hid (QID b k hlt hm)
      obtain⟨fn,tmps,assign,body,hy,hR⟩:=hY _ ⟨k,hlt⟩ wr hJs (Nat.lt_of_le_of_lt (QEO b k) hlt)
      gi_wp2_with (refine⟨trivial,?_⟩;gi_at_call 274;refine (callsIn_wide.2 (Xk _ _ h0 h1 _)).mono ?_;rintro e w' ⟨rfl,rfl⟩)
      gi_wp2
      refine hR.mono ?_
      rintro e W3 (⟨rfl,hJ3,hk3⟩|⟨rfl,hJx3⟩)
      · gi_wp2
        go_roundw
        case rel=>exact⟨k+1,by omega,by simp,by rw[HS.out];exact hJ3,hk3.boxed hnx⟩
        case measure=>simp[intOf];omega
      · gi_wp2
        refine bodyPost_ret (results_none rfl _ _ _) rfl ?_
        exact⟨⟨_,rfl⟩,.inr ⟨_,⟨k,hlt,hm,HS.out.symm⟩,hJx3⟩⟩
  · obtain rfl:k=8:=by omega
    gi_wp2
    go_end0
    exact⟨⟨_,rfl⟩,.inl ⟨_,rfl,hJs⟩⟩
theorem QMS (n:Nat)(b:Int)(w:World) :
 CallsIn Fence.wide n Tryz.prog 351 #[.int .u8 b] w fun e w'=>e=.returned (.func (.func 361) #[] #[.pointer (some ⟨w.heap.size,0,none⟩)])∧w'=w.alloc (.cells #[.int .u8 b] 5):=by
 refine callsIn_of_wp Tryz.func351 rfl trivial ?_ rfl
 simp only[Tryz.ntmps351,List.size_toArray,List.length_cons,List.length_nil,Nat.reduceAdd,Nat.reduceSub,Array.replicate_succ,Array.replicate_zero,List.push_toArray,List.append_toArray,List.nil_append,List.cons_append]
 gi_wp2
 go_ret
 exact⟨rfl,rfl⟩
def partOf (b:Int)(pre:List (Fin 8)):Prop:=∃ k:Nat,k < 8∧isM b (k:Int)=true∧pre=Qt b (k+1)
theorem QFc (n:Nat)(hn:1≤n)(Bs:Nat)(b:Int)(h0:0≤b)(h1:b≤255)(w:World)(hc:Boxed w Bs 5 (.int .u8 b)) :
 SeqStopsK Fence.wide n Tryz.prog 361 #[.pointer (some ⟨Bs,0,none⟩)] (fun x:Fin 8=>#[Value.int .i64 (x.val:Int)]) (KeepsBox Bs) (fun ys=>ys=Qt b 8) (partOf b) 8 w:=fun l J Jx W hW _ _ hY hJ0 =>
 QQn n hn l Bs b h0 h1 J Jx hY W ((hW.block Bs hc.lt).trans hc) hJ0
theorem QGb (l:List (Fin 8))(x:Fin 8):QAP (l++[x])=!QAP l:=by simp[QAP]
theorem QRF (b:Int)(h0:0≤b)(h1:b≤255)(w:World) :
 CallsIn Fence.wide 4 Tryz.prog 323 #[.int .u8 b] w fun e W'=>e=.returned (.bool (qG b))∧Below w.heap.size w W':=by
 refine callsIn_of_wp_marks Tryz.func323 rfl trivial ?_ rfl
 simp only[Tryz.ntmps323,List.size_toArray,List.length_cons,List.length_nil,Nat.reduceAdd,Nat.reduceSub,Array.replicate_succ,Array.replicate_zero,List.push_toArray,List.append_toArray,List.nil_append,List.cons_append]
 gi_wp2_with (refine⟨trivial,?_⟩;gi_at_call 351;refine (QMS _ _ _).mono ?_;rintro e w' ⟨rfl,rfl⟩)
 have bS:=Boxed.new w 4 (.bool true)
 have bN:=Boxed.new (w.alloc (.cells #[.bool true] 4)) 5 (.int .u8 b)
 rw[World.size_alloc] at bN
 have hB0:Below w.heap.size w ((w.alloc (.cells #[.bool true] 4)).alloc (.cells #[.int .u8 b] 5)):=((Below.refl _ w).alloc (Nat.le_refl _) _).alloc (by simp) _
 refine wpIn_rangeFunc_ownG (F:=Fence.wide) rfl (by decide) (gf:=361) (lb:=#[.pointer (some ⟨w.heap.size+1,0,none⟩)]) rfl trivial (enters_of Tryz.func361 (by kernel_rfl) rfl)
  (QFc 3 (by omega) (w.heap.size+1) b h0 h1 _ bN) QFh (QFB (by simp)) (Below.refl _ _) (fun _=>rfl)
  (fun pre W=>(W.cell? ⟨w.heap.size,0,none⟩=some (.bool (QAP pre))∧W.frozen? ⟨w.heap.size,0,none⟩=false)∧Below w.heap.size w W)
  (fun _ _ _=>False)
  (OwnFrom.and (Own.from (fun s A B row hs hg hr=>⟨cell_kept hs.1 hg hr,(frozen_kept hs.1 hg hr).trans hs.2⟩) _) (ownFrom_below (Nat.le_refl _) (by simp;omega)))
  (fun _ _ _ _ _ hs _ _=>hs)
  ⟨⟨(bS.alloc _).cell,(bS.alloc _).frozen⟩,hB0⟩
  (fun x=>{ tmps:=#[.int .u8 b,undef,.bool false,.pointer (some ⟨w.heap.size,0,none⟩),.int .u8 b,.func (.func 361) #[] #[.pointer (some ⟨w.heap.size+1,0,none⟩)],.int .i64 (x.val:Int),undef,undef,undef],defers:=[] }) ?assign ?body ?done ?stop
 case assign =>
  intro l x W K hK
  gi_wp2
  simpa using hK
 case body =>
  rintro l pre x W ⟨⟨hc,hf⟩,hB⟩ _
  gi_wp2
  exact⟨(KeepsOthers.setCell _ _ _).from _,QAd (by omega) W _,⟨by rw[QGb];exact World.cell?_setCell_same' _ _ _ (by rw[hc];rfl),by rw[World.frozen?_setCell];exact hf⟩,hB.setCell (p:=⟨w.heap.size,0,none⟩) (Nat.le_refl _) _⟩
 case done =>
  rintro D ys W hD rfl ⟨⟨hc,_⟩,hB⟩ hK
  gi_wp2
  refine⟨by simp,.inl ⟨_,_,rfl,run_takeDeferred hK,?_⟩⟩
  exact⟨_,results_tmp rfl _ _ _,by rw[←QH6 b h0 h1];rfl,hB.trans (belowK_b (w:=w) (Nat.le_refl _) W D _ _ (by simp at hD;omega) hK rfl rfl)⟩
 case stop =>
  rintro D c pre W _ _ h _
  exact h.elim
theorem QJW (b:Int)(h0:0≤b)(h1:b≤255)(w:World) :
 Calls Tryz.prog 323 #[.int .u8 b] w fun e W'=>e=.returned (.bool (qG b))∧Below w.heap.size w W':=callsIn_wide.1 (QRF b h0 h1 w)
theorem QGk (left:Int)(l:List (Fin 8))(x:Fin 8):ZY left (l++[x])=JO (ZY left l) (((x.val:Int)+left)%8) true:=by simp[ZY]
theorem QGl (left:Int)(l:List (Fin 8)):0≤ZY left l∧ZY left l≤255:=by
 unfold ZY
 have:∀ (l:List (Fin 8)) (t:Int),0≤t→t≤255→0≤l.foldl (fun t n=>JO t (((n.val:Int)+left)%8) true) t∧l.foldl (fun t n=>JO t (((n.val:Int)+left)%8) true) t≤255:=by
  intro l
  induction l with
  | nil=>intro t a b;exact⟨a,b⟩
  | cons x l ih=>intro t a b;have:=QCS t (((x.val:Int)+left)%8) true a b;exact ih _ this.1 this.2
 exact this l 0 (by decide) (by decide)
theorem QP6 (y:Int):bits BinOp.and IntKind.i64 y 7=y%8:=by
 have e:(BitVec.ofInt 64 y &&& BitVec.ofInt 64 7).toNat=(y%8).toNat:=by
  rw[BitVec.toNat_and,show (BitVec.ofInt 64 7).toNat=2 ^ 3-1 by decide,Nat.and_two_pow_sub_one_eq_mod,BitVec.toNat_ofInt]
  omega
 show IntKind.i64.wrap ((BitVec.ofInt 64 y &&& BitVec.ofInt 64 7).toNat:Int)=_
 rw[e,IntKind.wrap_i64]
 omega
theorem QSm (b y:Int)(h0:0≤b)(h1:b≤255)(w:World) :
 CallsIn Fence.wide 4 Tryz.prog 321 #[.int .u8 b,.int .i64 y] w fun e W'=>e=.returned (.int .u8 (Xx b y))∧Below w.heap.size w W':=by
 have hF:=QIL b y h0 h1
 have h7:=QP6 y
 have t0:0≤y%8:=by omega
 have t1:y%8 < 8:=by omega
 generalize y%8=t at hF h7 t0 t1
 rw[←hF]
 clear hF
 refine callsIn_of_wp_marks Tryz.func321 rfl trivial ?_ rfl
 simp only[Tryz.ntmps321,List.size_toArray,List.length_cons,List.length_nil,Nat.reduceAdd,Nat.reduceSub,Array.replicate_succ,Array.replicate_zero,List.push_toArray,List.append_toArray,List.nil_append,List.cons_append]
 gi_wp2_with (refine⟨trivial,?_⟩;gi_at_call 351;refine (QMS _ _ _).mono ?_;rintro e w' ⟨rfl,rfl⟩)
 clear h7
 have bL:=Boxed.new w 3 (.int .i64 t)
 have bT:=Boxed.new (w.alloc (.cells #[.int .i64 t] 3)) 5 (.int .u8 0)
 have bN:=Boxed.new ((w.alloc (.cells #[.int .i64 t] 3)).alloc (.cells #[.int .u8 0] 5)) 5 (.int .u8 b)
 simp only[World.size_alloc] at bT bN
 have hB0:Below w.heap.size w (((w.alloc (.cells #[.int .i64 t] 3)).alloc (.cells #[.int .u8 0] 5)).alloc (.cells #[.int .u8 b] 5)):=(((Below.refl _ w).alloc (Nat.le_refl _) _).alloc (by simp) _).alloc (by simp;omega) _
 refine wpIn_rangeFunc_ownG (F:=Fence.wide) rfl (by decide) (gf:=361) (lb:=#[.pointer (some ⟨w.heap.size+1+1,0,none⟩)]) rfl trivial (enters_of Tryz.func361 (by kernel_rfl) rfl)
  (QFc 3 (by omega) (w.heap.size+1+1) b h0 h1 _ bN) QFh (QFB (by simp)) (Below.refl _ _) (fun _=>rfl)
  (fun pre W=>(W.cell? ⟨w.heap.size+1,0,none⟩=some (.int .u8 (ZY t pre))∧W.frozen? ⟨w.heap.size+1,0,none⟩=false∧Boxed W w.heap.size 3 (.int .i64 t))∧Below w.heap.size w W)
  (fun _ _ _=>False)
  (OwnFrom.and (Own.from (fun s A B row hs hg hr=>⟨cell_kept hs.1 hg hr,(frozen_kept hs.1 hg hr).trans hs.2.1,boxed_own w.heap.size 3 (fun _=>.int .i64 t) s A B row hs.2.2 hg hr⟩) _) (ownFrom_below (Nat.le_refl _) (by simp;omega)))
  (fun _ _ _ _ _ hs _ _=>hs)
  ⟨⟨(bT.alloc _).cell,(bT.alloc _).frozen,(bL.alloc _).alloc _⟩,hB0⟩
  (fun x=>{ tmps:=#[.int .u8 b,.int .i64 y,undef,undef,.int .u8 0,.pointer (some ⟨w.heap.size,0,none⟩),.pointer (some ⟨w.heap.size+1,0,none⟩),.int .i64 (x.val:Int),.int .i64 y,.int .i64 t,.int .u8 b,.func (.func 361) #[] #[.pointer (some ⟨w.heap.size+1+1,0,none⟩)],.int .i64 (x.val:Int),undef,undef,undef,undef,undef,undef,undef],defers:=[] }) ?assign ?body ?done ?stop
 case assign =>
  intro l x W K hK
  gi_wp2
  exact hK
 case body =>
  rintro l pre x W ⟨⟨hc,hf,hL⟩,hB⟩ _
  have hx:(x.val:Int) < 8:=by have:=x.isLt;omega
  have hx0:0≤(x.val:Int):=by omega
  have hcl:=hL.cell
  have hb:=QGl t pre
  gi_wp2_with (refine⟨trivial,?_⟩;gi_at_call 227;refine (CallsIn.inRound l (callsIn_wide.2 (Xc _ _ true hb.1 hb.2 _))).mono ?_;rintro e w' ⟨rfl,rfl⟩)
  exact⟨(KeepsOthers.setCell _ _ _).from _,QAd (by omega) W _,⟨by rw[QGk];exact World.cell?_setCell_same' _ _ _ (by rw[hc];rfl),by rw[World.frozen?_setCell];exact hf,QAd (by omega) W _ |>.boxed hL⟩,hB.setCell (p:=⟨w.heap.size+1,0,none⟩) (by simp) _⟩
 case done =>
  rintro D ys W hD rfl ⟨⟨hc,_⟩,hB⟩ hK
  gi_wp2
  refine⟨by simp,.inl ⟨_,_,rfl,run_takeDeferred hK,?_⟩⟩
  exact⟨_,results_tmp rfl _ _ _,rfl,hB.trans (belowK_b (w:=w) (Nat.le_refl _) W D _ _ (by simp at hD;omega) hK rfl rfl)⟩
 case stop =>
  rintro D c pre W _ _ h _
  exact h.elim
theorem j0 (b y:Int)(h0:0≤b)(h1:b≤255)(w:World) :
 Calls Tryz.prog 321 #[.int .u8 b,.int .i64 y] w fun e W'=>e=.returned (.int .u8 (Xx b y))∧Below w.heap.size w W':=callsIn_wide.1 (QSm b y h0 h1 w)
end
section
theorem XN {P:Program} {t e:TypeId} {n:Nat} {cs:Array Value} {k:IntKind} {i:Int} {w:World} {v:Value}(h:P.underlying t=some (.array n e))(he:P.plainKey e=true)(hs:(sizeOf e).run P w=.ok 1 w)(hi:0≤i∧i < n)(hv:cs[i.toNat]?=some v) :
 (Instr.index t (.agg cs) (.int k i)).run P w=.ok v w:=by
 simp[Instr.index,asIntOf,run_underlying h,hi,hs,run_part_plain w he hv]
theorem QGE (a0 a1 a2 a3 a4 a5 a6 a7:Value)(w:World):(Instr.index 163 (.agg #[a0,a1,a2,a3,a4,a5,a6,a7]) (.int .i64 0)).run Tryz.prog w=.ok a0 w :=
 XN Tryz.underlying163 (by kernel_rfl) (by kernel_rfl) (by decide) rfl
theorem QFm (a0 a1 a2 a3 a4 a5 a6 a7:Value)(w:World):(Instr.index 163 (.agg #[a0,a1,a2,a3,a4,a5,a6,a7]) (.int .i64 1)).run Tryz.prog w=.ok a1 w :=
 XN Tryz.underlying163 (by kernel_rfl) (by kernel_rfl) (by decide) rfl
theorem QFw (a0 a1 a2 a3 a4 a5 a6 a7:Value)(w:World):(Instr.index 163 (.agg #[a0,a1,a2,a3,a4,a5,a6,a7]) (.int .i64 2)).run Tryz.prog w=.ok a2 w :=
 XN Tryz.underlying163 (by kernel_rfl) (by kernel_rfl) (by decide) rfl
theorem QGQ (a0 a1 a2 a3 a4 a5 a6 a7:Value)(w:World):(Instr.index 163 (.agg #[a0,a1,a2,a3,a4,a5,a6,a7]) (.int .i64 3)).run Tryz.prog w=.ok a3 w :=
 XN Tryz.underlying163 (by kernel_rfl) (by kernel_rfl) (by decide) rfl
theorem QFI (a0 a1 a2 a3 a4 a5 a6 a7:Value)(w:World):(Instr.index 163 (.agg #[a0,a1,a2,a3,a4,a5,a6,a7]) (.int .i64 4)).run Tryz.prog w=.ok a4 w :=
 XN Tryz.underlying163 (by kernel_rfl) (by kernel_rfl) (by decide) rfl
theorem QFE (a0 a1 a2 a3 a4 a5 a6 a7:Value)(w:World):(Instr.index 163 (.agg #[a0,a1,a2,a3,a4,a5,a6,a7]) (.int .i64 5)).run Tryz.prog w=.ok a5 w :=
 XN Tryz.underlying163 (by kernel_rfl) (by kernel_rfl) (by decide) rfl
theorem QEw (a0 a1 a2 a3 a4 a5 a6 a7:Value)(w:World):(Instr.index 163 (.agg #[a0,a1,a2,a3,a4,a5,a6,a7]) (.int .i64 6)).run Tryz.prog w=.ok a6 w :=
 XN Tryz.underlying163 (by kernel_rfl) (by kernel_rfl) (by decide) rfl
theorem QFP (a0 a1 a2 a3 a4 a5 a6 a7:Value)(w:World):(Instr.index 163 (.agg #[a0,a1,a2,a3,a4,a5,a6,a7]) (.int .i64 7)).run Tryz.prog w=.ok a7 w :=
 XN Tryz.underlying163 (by kernel_rfl) (by kernel_rfl) (by decide) rfl
attribute [local go_sem ↓] QGE QFm QFw QGQ QFI QFE QEw QFP
abbrev v8 (b0 b1 b2 b3 b4 b5 b6 b7:Bool):Value:=.agg #[.bool b0,.bool b1,.bool b2,.bool b3,.bool b4,.bool b5,.bool b6,.bool b7]
abbrev of8 (f:Int):Value:=v8 (isM f 7) (isM f 6) (isM f 5) (isM f 4) (isM f 3) (isM f 2) (isM f 1) (isM f 0)
theorem QK (b0 b1 b2 b3 b4 b5 b6 b7:Bool)(w:World) :
 Calls Tryz.prog 144 #[v8 b0 b1 b2 b3 b4 b5 b6 b7] w fun e w'=>e=.returned (.int .u8 (mkM b0 b1 b2 b3 b4 b5 b6 b7))∧Below w.heap.size w w':=by
 go_enter Tryz.func144,Tryz.ntmps144
 go_wp2
 refine wp_loop_rounds 9 ?_
 iterate 9 (rw[rounds_succ];go_wp2_with (first
  | (go_at_call 92;refine (QR _ _ _ (B8.lo (by repeat (first|exact B8.zero|apply B8.with))) (B8.hi (by repeat (first|exact B8.zero|apply B8.with))) _).mono ?_;rintro e w' ⟨rfl,rfl⟩)))
 go_ret
 exact⟨rfl,(by repeat (first|exact Below.refl _ _|assumption|refine Jc ?_ (by assumption)|refine Below.drew ?_|refine Below.alloc ?_ (by first|(simp;done)|(simp;omega)|omega) _|refine Below.setCell ?_ (by first|(simp;done)|(simp;omega)|omega) _))⟩
theorem Qn (f:Int)(h0:0≤f)(h1:f≤255)(w:World) :
 Calls Tryz.prog 142 #[.int .u8 f] w fun e w'=>e=.returned (of8 f)∧Below w.heap.size w w':=by
 go_enter Tryz.func142,Tryz.ntmps142
 go_wp2
 refine wp_loop_rounds 9 ?_
 iterate 9 (rw[rounds_succ];go_wp2_with (first
  | (go_at_call 140;refine (QP _ _ h0 h1 _).mono ?_;rintro e w' ⟨rfl,rfl⟩)))
 refine bodyPost_ret (v:=of8 f) (by simp[results,Tryz.f142,go_sem]) rfl ?_
 exact⟨rfl,(by repeat (first|exact Below.refl _ _|assumption|refine Jc ?_ (by assumption)|refine Below.drew ?_|refine Below.alloc ?_ (by first|(simp;done)|(simp;omega)|omega) _|refine Below.setCell ?_ (by first|(simp;done)|(simp;omega)|omega) _))⟩
end
end Go.Proofs.YtkgaeamdhhceiaaGreatDoor
