/- Contracts and facts that the claim's proof wants (several texts in one). -/
import Derived.Maps.RangeWalk
import Derived.KernelRfl
import Derived.Lib.ItoaNum
import Derived.Test.YtkenebbjodcbcaaGreatDoorCoH15
namespace Go.Proofs.YtkenebbjodcbcaaGreatDoor
open Go.RowKit
set_option linter.unusedVariables false
set_option linter.unusedSimpArgs false
set_option maxRecDepth 20000
set_option maxHeartbeats 20000000
def j5 (l:List (Int×Int))(a:Int):Int:=l.foldl (fun b c=>if c.1=a then c.2 else b) 0
def QJR (x:Int×Int):List (Int×Int)→List (Int×Int)
 | []=>[x]
 | y :: r=>if x.1 < y.1 then x :: y :: r else y :: QJR x r
def QPS (a:Int)(m:List (Int×Int)):List (Int×Int):=m.filter fun p=>!decide (p.1=a)
def QQ1 (a b:Int)(m:List (Int×Int)):List (Int×Int):=QJR (a,b) (QPS a m)
def QCJ (m:List (Int×Int))(c:Int×Int):List (Int×Int):=if c.2=0 then QPS c.1 m else QQ1 c.1 c.2 m
def mkS (l:List (Int×Int)):List (Int×Int):=l.foldl QCJ []
def Srt (m:List (Int×Int)):Prop:=m.Pairwise fun x y=>x.1 < y.1
def qm (l:List (Int×Int)):Prop:=∀ c∈l,0≤c.1∧c.1≤65535∧0≤c.2∧c.2≤255
def QCi (m:List (Int×Int)):Prop:=∀ c∈m,c.2≠0
theorem QEN {x p:Int×Int}:∀ {m:List (Int×Int)},p∈QJR x m↔p=x∨p∈m
 | []=>by simp[QJR]
 | y :: r=>by
   unfold QJR
   split
   · simp
   · simp only[List.mem_cons,QEN (m:=r)]
     constructor
     · rintro (h|h|h)
       · exact .inr (.inl h)
       · exact .inl h
       · exact .inr (.inr h)
     · rintro (h|h|h)
       · exact .inr (.inl h)
       · exact .inl h
       · exact .inr (.inr h)
theorem QAR {a:Int} {m:List (Int×Int)} {p:Int×Int}:p∈QPS a m↔p∈m∧p.1≠a:=by
 unfold QPS
 rw[List.mem_filter]
 simp
theorem QFb {a b:Int} {m:List (Int×Int)} {p:Int×Int}:p∈QQ1 a b m↔p=(a,b)∨(p∈m∧p.1≠a):=by
 unfold QQ1
 rw[QEN,QAR]
theorem QID {x:Int×Int}:∀ {m:List (Int×Int)},Srt m→(∀ p∈m,p.1≠x.1)→Srt (QJR x m)
 | [],_,_=>by simp[QJR,Srt]
 | y :: r,h,hn=>by
   obtain⟨h1,h2⟩:=List.pairwise_cons.1 h
   unfold QJR
   split
   · rename_i hb
     refine List.pairwise_cons.2 ⟨fun q hq=>?_,h⟩
     rcases List.mem_cons.1 hq with rfl|hq
     · exact hb
     · exact Int.lt_trans hb (h1 q hq)
   · rename_i hb
     have hyx:y.1 < x.1:=by have:=hn y (by simp);omega
     refine List.pairwise_cons.2 ⟨fun q hq=>?_,QID h2 fun p hp=>hn p (by simp[hp])⟩
     rcases QEN.1 hq with rfl|hq
     · exact hyx
     · exact h1 q hq
theorem QJU {a:Int} {m:List (Int×Int)}(h:Srt m):Srt (QPS a m):=h.filter _
theorem QPL {a b:Int} {m:List (Int×Int)}(h:Srt m):Srt (QQ1 a b m):=QID (QJU h) fun p hp=>(QAR.1 hp).2
theorem QMx {m:List (Int×Int)}(h:Srt m)(c:Int×Int):Srt (QCJ m c):=by
 unfold QCJ
 split
 · exact QJU h
 · exact QPL h
theorem QF8:∀ (l:List (Int×Int)) {m:List (Int×Int)},Srt m→Srt (l.foldl QCJ m)
 | [],_,h=>h
 | c :: r,_,h=>QF8 r (QMx h c)
theorem QHp (l:List (Int×Int)):Srt (mkS l):=QF8 l List.Pairwise.nil
theorem QO6 {m:List (Int×Int)}(h:QCi m)(c:Int×Int):QCi (QCJ m c):=by
 unfold QCJ
 split
 · exact fun p hp=>h p (QAR.1 hp).1
 · rename_i hc
   intro p hp
   rcases QFb.1 hp with rfl|hp
   · exact hc
   · exact h p hp.1
theorem QH3:∀ (l:List (Int×Int)) {m:List (Int×Int)},QCi m→QCi (l.foldl QCJ m)
 | [],_,h=>h
 | c :: r,_,h=>QH3 r (QO6 h c)
theorem QOD (l:List (Int×Int)):QCi (mkS l):=QH3 l fun _ h=>by cases h
theorem QGD:∀ {l m:List (Int×Int)},Srt l→Srt m→(∀ p,p∈l↔p∈m)→l=m
 | [],[],_,_,_=>rfl
 | [],b :: s,_,_,h=>by have:=(h b).2 (by simp);simp at this
 | a :: r,[],_,_,h=>by have:=(h a).1 (by simp);simp at this
 | a :: r,b :: s,h1,h2,h=>by
   obtain⟨a1,a2⟩:=List.pairwise_cons.1 h1
   obtain⟨b1,b2⟩:=List.pairwise_cons.1 h2
   have hab:a=b:=by
    rcases List.mem_cons.1 ((h a).1 (by simp)) with e|ha
    · exact e
    · rcases List.mem_cons.1 ((h b).2 (by simp)) with e|hb
      · exact e.symm
      · have:=a1 b hb;have:=b1 a ha;omega
   subst hab
   rw[QGD a2 b2 fun p=>⟨fun hp=>by
    rcases List.mem_cons.1 ((h p).1 (by simp[hp])) with e|hp'
    · have:=a1 p hp;rw[e] at this;omega
    · exact hp',fun hp=>by
    rcases List.mem_cons.1 ((h p).2 (by simp[hp])) with e|hp'
    · have:=b1 p hp;rw[e] at this;omega
    · exact hp'⟩]
theorem QPx {m:List (Int×Int)}(h:Srt m):∀ {p q:Int×Int},p∈m→q∈m→p.1=q.1→p=q:=by
 induction m with
 | nil=>intro p q hp;cases hp
 | cons a r ih =>
   obtain⟨a1,a2⟩:=List.pairwise_cons.1 h
   intro p q hp hq e
   rcases List.mem_cons.1 hp with e1|hp'<;>rcases List.mem_cons.1 hq with e2|hq'
   · rw[e1,e2]
   · have:=a1 q hq';rw[e1] at e;omega
   · have:=a1 p hp';rw[e2] at e;omega
   · exact ih a2 hp' hq' e
theorem zJ (l:List (Int×Int))(c:Int×Int)(a:Int):j5 (l++[c]) a=if c.1=a then c.2 else j5 l a:=by unfold j5;rw[List.foldl_append];rfl
theorem QNu (l:List (Int×Int))(c:Int×Int):mkS (l++[c])=QCJ (mkS l) c:=by unfold mkS;rw[List.foldl_append];rfl
theorem QGv (l:List (Int×Int)):∀ p:Int×Int,p∈mkS l↔j5 l p.1=p.2∧p.2≠0:=by
 have key:∀ (n:Nat) (l:List (Int×Int)),l.length=n→∀ p:Int×Int,p∈mkS l↔j5 l p.1=p.2∧p.2≠0:=by
  intro n
  induction n with
  | zero =>
    intro l hl p
    obtain rfl:=List.eq_nil_of_length_eq_zero hl
    constructor
    · intro h;cases h
    · rintro ⟨h1,h2⟩;exact absurd h1.symm h2
  | succ n ih =>
    intro l hl p
    obtain⟨l',c,rfl⟩:∃ l' c,l=l'++[c]:=⟨l.dropLast,l.getLast (by intro h;rw[h] at hl;cases hl),(List.dropLast_concat_getLast _).symm⟩
    have ih:=ih l' (by simpa using hl)
    rw[QNu,zJ]
    unfold QCJ
    by_cases hc:c.1=p.1
    · rw[if_pos hc]
      split
      · rename_i h0
        rw[QAR]
        constructor
        · rintro ⟨-,h⟩;exact absurd hc.symm h
        · rintro ⟨h1,h2⟩;exact absurd (h1.symm.trans h0) h2
      · rename_i h0
        rw[QFb]
        constructor
        · rintro (rfl|⟨-,h⟩)
          · exact⟨rfl,h0⟩
          · exact absurd hc.symm h
        · rintro ⟨h1,h2⟩
          exact .inl (Prod.ext hc.symm h1.symm)
    · rw[if_neg hc]
      have hne:p.1≠c.1:=fun e=>hc e.symm
      split
      · rw[QAR,ih]
        exact⟨fun h=>h.1,fun h=>⟨h,hne⟩⟩
      · rw[QFb,ih]
        constructor
        · rintro (rfl|h)
          · exact absurd rfl hc
          · exact h.1
        · exact fun h=>.inr ⟨h,hne⟩
 exact key _ l rfl
theorem QIn (l:List (Int×Int))(a:Int)(h:j5 l a≠0):∃ c∈l,c.1=a:=by
 have key:∀ (n:Nat) (l:List (Int×Int)),l.length=n→j5 l a≠0→∃ c∈l,c.1=a:=by
  intro n
  induction n with
  | zero =>
    intro l hl h
    obtain rfl:=List.eq_nil_of_length_eq_zero hl
    exact absurd rfl h
  | succ n ih =>
    intro l hl h
    obtain⟨l',c,rfl⟩:∃ l' c,l=l'++[c]:=⟨l.dropLast,l.getLast (by intro h;rw[h] at hl;cases hl),(List.dropLast_concat_getLast _).symm⟩
    rw[zJ] at h
    split at h
    · rename_i e;exact⟨c,by simp,e⟩
    · obtain⟨d,hd,e⟩:=ih l' (by simpa using hl) h
      exact⟨d,by simp[hd],e⟩
 exact key _ l rfl h
theorem QEa {m:List (Int×Int)}(h:Srt m){p:Int×Int}(hp:p∈m):j5 m p.1=p.2:=by
 have key:∀ (n:Nat) (m:List (Int×Int)),m.length=n→Srt m→p∈m→j5 m p.1=p.2:=by
  intro n
  induction n with
  | zero =>
    intro m hm _ hp
    obtain rfl:=List.eq_nil_of_length_eq_zero hm
    cases hp
  | succ n ih =>
    intro m hm hs hp
    obtain⟨l',c,rfl⟩:∃ l' c,m=l'++[c]:=⟨m.dropLast,m.getLast (by intro h;rw[h] at hm;cases hm),(List.dropLast_concat_getLast _).symm⟩
    rw[zJ]
    have hs':=List.pairwise_append.1 hs
    by_cases hc:c.1=p.1
    · rw[if_pos hc,QPx hs (p:=c) (q:=p) (by simp) hp hc]
    · rw[if_neg hc]
      refine ih l' (by simpa using hm) hs'.1 ?_
      rcases List.mem_append.1 hp with h|h
      · exact h
      · simp at h;exact absurd (congrArg Prod.fst h).symm hc
 exact key _ m rfl h hp
theorem QQE {l:List (Int×Int)} {m:List (Int×Int)}(h:Srt m)(hn:QCi m)(hg:∀ a,j5 m a=j5 l a):mkS l=m :=
 QGD (QHp l) h fun p=>by
  rw[QGv,←hg]
  constructor
  · rintro ⟨h1,h2⟩
    obtain⟨c,hc,e⟩:=QIn m p.1 (by rw[h1];exact h2)
    have:=QEa h hc
    rw[e,h1] at this
    have:c=p:=Prod.ext e this.symm
    exact this▸hc
  · exact fun hp=>⟨QEa h hp,hn p hp⟩
theorem QPc (l:List (Int×Int))(a:Int):j5 (mkS l) a=j5 l a:=by
 by_cases h:j5 l a=0
 · rw[h]
   by_cases h2:j5 (mkS l) a=0
   · exact h2
   · obtain⟨c,hc,rfl⟩:=QIn _ _ h2
     exact absurd ((QGv l c).1 hc).1 (by rw[h];exact fun e=>(QOD l c hc) e.symm)
 · exact QEa (QHp l) (p:=(a,j5 l a)) ((QGv l _).2 ⟨rfl,h⟩)
theorem QMt {l l':List (Int×Int)}(h:∀ a,j5 l a=j5 l' a):mkS l=mkS l':=QQE (QHp l') (QOD l') fun a=>by rw[QPc,h]
theorem QQI {l:List (Int×Int)}(h:qm l)(a:Int):0≤j5 l a∧j5 l a≤255:=by
 have key:∀ (l:List (Int×Int)) (b:Int),qm l→0≤b∧b≤255→0≤l.foldl (fun b c=>if c.1=a then c.2 else b) b∧l.foldl (fun b c=>if c.1=a then c.2 else b) b≤255:=by
  intro l
  induction l with
  | nil=>intro b _ hb;exact hb
  | cons c r ih =>
    intro b hl hb
    refine ih _ (fun p hp=>hl p (by simp[hp])) ?_
    have:=hl c (by simp)
    show 0≤(if c.1=a then c.2 else b)∧(if c.1=a then c.2 else b)≤255
    by_cases e:c.1=a
    · rw[if_pos e];exact⟨this.2.2.1,this.2.2.2⟩
    · rw[if_neg e];exact hb
 exact key l 0 h ⟨by omega,by omega⟩
theorem QJy {l m:List (Int×Int)}(h:qm l)(k:qm m):qm (l++m):=fun c hc=>(List.mem_append.1 hc).elim (h c) (k c)
structure Sx where
 got:List Int
 m:List (Int×Int)
 p:List Int
 l:List Cy
 n:Int
structure Wd where
 g:Rg
 m:List (Int×Int)
 p:List Int
def QHN (c:Cy)(v:Int)(m:List (Int×Int))(p:List Int):Int :=
 if c.kind=1∨c.kind=2 then j5 m c.addr else if c.kind=4 then p.headD 255 else if c.kind=6 then v else 0
def QFi (c:Cy)(m:List (Int×Int)):List (Int×Int):=if c.kind=3 then m++[(c.addr,c.data)] else m
def QKI (c:Cy)(p:List Int):List Int:=if c.kind=4 then p.tail else p
def QFt (c:Cy)(b:Int):Cy:=if c.kind=3∨c.kind=5 then c else { c with data:=b }
def QNx (c:Cy)(b:Int)(l:List Cy):List Cy:=if c.kind=7 then l else l++[QFt c b]
def QEQ (c:Cy)(v:Int)(x:Sx):Sx:=⟨x.got++[QHN c v x.m x.p],QFi c x.m,QKI c x.p,QNx c (QHN c v x.m x.p) x.l,x.n+c.t⟩
def goS (g:Rg)(which v:Int):Nat→Sx→Sx
 | 0,x=>x
 | k+1,x=>if (Jr g which x.got).b=true then x else goS g which v k (QEQ (Jr g which x.got).c v x)
def begS (w:Wd):Sx:=⟨[],w.m,w.p,[],0⟩
def QI4 (w:Wd)(which v:Int):Sx:=goS w.g which v 200 (begS w)
def QSR (g:Rg)(which:Int)(x:Sx):Rg:=if (Jr g which x.got).b=true then (Jr g which x.got).g else g
def QEv (w:Wd)(which v:Int):Wd:=⟨QSR w.g which (QI4 w which v),(QI4 w which v).m,(QI4 w which v).p⟩
def QSO:Nat→Wd→Wd×Int
 | 0,w=>(w,0)
 | k+1,w=>((QSO k (QEv w 0 0)).1,(QI4 w 0 0).n+(QSO k (QEv w 0 0)).2)
def SameM (m m':List (Int×Int)):Prop:=∀ a,j5 m a=j5 m' a
theorem SameM.refl (m:List (Int×Int)):SameM m m:=fun _=>rfl
theorem SameM.symm {m m':List (Int×Int)}(h:SameM m m'):SameM m' m:=fun a=>(h a).symm
theorem SameM.trans {a b c:List (Int×Int)}(h:SameM a b)(k:SameM b c):SameM a c:=fun x=>(h x).trans (k x)
theorem SameM.snoc {m m':List (Int×Int)}(h:SameM m m')(c:Int×Int):SameM (m++[c]) (m'++[c]):=fun a=>by rw[zJ,zJ,h a]
theorem SameM.mk {m m':List (Int×Int)}(h:SameM m m'):mkS m=mkS m':=QMt h
structure SimW (w u:Wd):Prop where
 g:w.g=u.g
 m:SameM w.m u.m
 p:w.p=u.p
theorem SimW.refl (w:Wd):SimW w w:=⟨rfl,.refl _,rfl⟩
def jJ:Prop:=∀ (g:Rg) (which:Int) (xs:List Int),RgB g→Bytes8 xs→((Jr g which xs).b=true→RgB (Jr g which xs).g)∧((Jr g which xs).b=false→Wd16 (Jr g which xs).c.addr∧B8 (Jr g which xs).c.data)
structure OkS (x:Sx):Prop where
 got:Bytes8 x.got
 m:qm x.m
 p:Bytes8 x.p
structure OkW (w:Wd):Prop where
 g:RgB w.g
 m:qm w.m
 p:Bytes8 w.p
theorem OkW.beg {w:Wd}(h:OkW w):OkS (begS w):=⟨fun x hx=>(by cases hx),h.m,h.p⟩
theorem QNq {p:List Int}(h:Bytes8 p):B8 (p.headD 255):=by
 cases p with
 | nil=>exact⟨by decide,by decide⟩
 | cons b r=>exact h.head
theorem QQ4 {x:Sx}(h:OkS x)(c:Cy){v:Int}(hv:B8 v):B8 (QHN c v x.m x.p):=by
 unfold QHN
 split
 · exact QQI h.m _
 split
 · exact QNq h.p
 split
 · exact hv
 · exact B8.zero
theorem Bytes8.snoc {xs:List Int}(h:Bytes8 xs){b:Int}(hb:B8 b):Bytes8 (xs++[b]):=fun x hx=>by
 rcases List.mem_append.1 hx with e|e
 · exact h x e
 · rw[List.mem_singleton.1 e];exact hb
theorem Bytes8.tl {p:List Int}(h:Bytes8 p):Bytes8 p.tail:=fun x hx=>h x (List.mem_of_mem_tail hx)
theorem OkS.next {x:Sx}(h:OkS x){c:Cy}(hc:Wd16 c.addr∧B8 c.data){v:Int}(hv:B8 v):OkS (QEQ c v x):=by
 refine⟨h.got.snoc (QQ4 h c hv),?_,?_⟩
 · show qm (QFi c x.m)
   unfold QFi
   split
   · exact QJy h.m fun d hd=>by
      rw[List.mem_singleton.1 hd]
      exact⟨hc.1.1,hc.1.2,hc.2.1,hc.2.2⟩
   · exact h.m
 · show Bytes8 (QKI c x.p)
   unfold QKI
   split
   · exact h.p.tl
   · exact h.p
theorem OkS.go (hA:jJ){g:Rg}(hg:RgB g)(which:Int){v:Int}(hv:B8 v):∀ (k:Nat) {x:Sx},OkS x→OkS (goS g which v k x)
 | 0,x,h=>h
 | k+1,x,h=>by
   unfold goS
   split
   · exact h
   · rename_i hb
     exact OkS.go hA hg which hv k (h.next ((hA g which x.got hg h.got).2 (by simpa using hb)) hv)
theorem OkW.x (hA:jJ){w:Wd}(h:OkW w)(which:Int){v:Int}(hv:B8 v):OkS (QI4 w which v):=h.beg.go hA h.g which hv 200
theorem OkW.pstepW (hA:jJ){w:Wd}(h:OkW w)(which:Int){v:Int}(hv:B8 v):OkW (QEv w which v):=by
 have k:=h.x hA which hv
 refine⟨?_,k.m,k.p⟩
 show RgB (QSR w.g which _)
 unfold QSR
 split
 · rename_i hb
   exact (hA _ _ _ h.g k.got).1 hb
 · exact h.g
theorem OkW.run (hA:jJ):∀ (k:Nat) {w:Wd},OkW w→OkW (QSO k w).1
 | 0,w,h=>h
 | k+1,w,h=>OkW.run hA k (h.pstepW hA 0 B8.zero)
def wrS (l:List Cy)(m:List (Int×Int)):List (Int×Int):=l.foldl (fun m c=>QFi c m) m
def inS (l:List Cy):Nat:=(l.filter fun c=>decide (c.kind=4)).length
theorem QRE (l:List Cy)(c:Cy)(m:List (Int×Int)):wrS (l++[c]) m=QFi c (wrS l m):=by unfold wrS;rw[List.foldl_append];rfl
theorem QQr (l:List Cy)(c:Cy):inS (l++[c])=if c.kind=4 then inS l+1 else inS l:=by
 unfold inS
 rw[List.filter_append,List.length_append]
 by_cases h:c.kind=4<;>simp[h]
structure TellS (v:Int)(m0:List (Int×Int))(p0:List Int)(x:Sx):Prop where
 m:x.m=wrS x.l m0
 p:x.p=p0.drop (inS x.l)
 at_:∀ (k:Nat) (h:k < x.l.length),x.l[k].kind≠7∧(x.l[k].kind=1∨x.l[k].kind=2→x.l[k].data=j5 (wrS (x.l.take k) m0) x.l[k].addr)∧(x.l[k].kind=6→x.l[k].data=v)
theorem QEo (c:Cy)(b:Int):(QFt c b).kind=c.kind:=by unfold QFt;split<;>rfl
theorem QJM (c:Cy)(b:Int):(QFt c b).addr=c.addr:=by unfold QFt;split<;>rfl
theorem QRK (c:Cy)(b:Int)(m:List (Int×Int)):QFi (QFt c b) m=QFi c m:=by
 unfold QFi
 rw[QEo,QJM]
 by_cases h:c.kind=3
 · rw[if_pos h,if_pos h]
   unfold QFt
   rw[if_pos (.inl h)]
 · rw[if_neg h,if_neg h]
theorem TellS.next {v:Int} {m0:List (Int×Int)} {p0:List Int} {x:Sx}(h:TellS v m0 p0 x)(c:Cy):TellS v m0 p0 (QEQ c v x):=by
 obtain⟨h1,h2,h3⟩:=h
 by_cases h7:c.kind=7
 · have e:(QEQ c v x).l=x.l:=by show QNx c _ x.l=x.l;unfold QNx;rw[if_pos h7]
   have em:(QEQ c v x).m=x.m:=by show QFi c x.m=x.m;unfold QFi;rw[if_neg (by omega)]
   have ep:(QEQ c v x).p=x.p:=by show QKI c x.p=x.p;unfold QKI;rw[if_neg (by omega)]
   exact⟨by rw[em,e];exact h1,by rw[ep,e];exact h2,by rw[e];exact h3⟩
 · have e:(QEQ c v x).l=x.l++[QFt c (QHN c v x.m x.p)]:=by show QNx c _ x.l=_;unfold QNx;rw[if_neg h7]
   refine⟨?_,?_,?_⟩
   · rw[e,QRE,QRK,←h1];rfl
   · rw[e,QQr,QEo]
     show QKI c x.p=_
     unfold QKI
     split
     · rw[h2,List.tail_drop]
     · exact h2
   · rw[e]
     intro k hk
     rw[List.length_append,List.length_singleton] at hk
     by_cases hl:k < x.l.length
     · rw[List.getElem_append_left hl,List.take_append_of_le_length (by omega)]
       exact h3 k hl
     · obtain rfl:k=x.l.length:=by omega
       rw[List.getElem_append_right (Nat.le_refl _),List.take_left]
       simp only[Nat.sub_self,List.getElem_cons_zero]
       rw[QEo,QJM,←h1]
       refine⟨h7,fun hk=>?_,fun hk=>?_⟩
       · unfold QFt
         rw[if_neg (by omega)]
         show QHN c v x.m x.p=_
         unfold QHN
         rw[if_pos hk]
       · unfold QFt
         rw[if_neg (by omega)]
         show QHN c v x.m x.p=_
         unfold QHN
         rw[if_neg (by omega),if_neg (by omega),if_pos hk]
theorem TellS.go {v:Int} {m0:List (Int×Int)} {p0:List Int}(g:Rg)(which:Int):∀ (k:Nat) {x:Sx},TellS v m0 p0 x→TellS v m0 p0 (goS g which v k x)
 | 0,x,h=>h
 | k+1,x,h=>by
   unfold goS
   split
   · exact h
   · exact TellS.go g which k (h.next _)
def Jh (k:Int):Nat:=if k=1∨k=2∨k=3 then 2 else if k=4∨k=5 then 3 else if k=6 then 4 else 0
def Zb (c:Cy):Bool:=decide (1≤c.kind∧c.kind≤7∧(Jh c.kind:Int) < c.t∧c.t≤32)
theorem QK3 (k:Int):Jh k≤4:=by unfold Jh;split<;>(try split)<;>(try split)<;>omega
theorem QFO (c:Cy):Zb c=true↔1≤c.kind∧c.kind≤7∧(Jh c.kind:Int) < c.t∧c.t≤32:=by unfold Zb;exact decide_eq_true_iff
structure AtT where
 c:Cy
 k:Int
 w:Int
def QJ (a:AtT)(wait:Bool):AtT×Bool×Bool :=
 if Zb a.c=false∨a.k < 0∨a.c.t≤a.k then (a,false,false)
 else if Jh a.c.kind≠0∧a.k=(Jh a.c.kind:Int)-1∧wait=true then (⟨a.c,a.k,IntKind.i64.wrap (a.w+1)⟩,false,false)
 else (⟨a.c,a.k+1,a.w⟩,decide (Jh a.c.kind≠0∧a.k+1=(Jh a.c.kind:Int)+1),decide (a.k+1=a.c.t))
theorem QKu {a:AtT} {wait:Bool}(h:Zb a.c=false∨a.k < 0∨a.c.t≤a.k):QJ a wait=(a,false,false):=if_pos h
theorem QCp {a:AtT} {wait:Bool}(h:¬(Zb a.c=false∨a.k < 0∨a.c.t≤a.k))(h2:Jh a.c.kind≠0∧a.k=(Jh a.c.kind:Int)-1∧wait=true):QJ a wait=(⟨a.c,a.k,IntKind.i64.wrap (a.w+1)⟩,false,false):=(if_neg h).trans (if_pos h2)
theorem QG2 {a:AtT} {wait:Bool}(h:¬(Zb a.c=false∨a.k < 0∨a.c.t≤a.k))(h2:¬(Jh a.c.kind≠0∧a.k=(Jh a.c.kind:Int)-1∧wait=true)):QJ a wait=(⟨a.c,a.k+1,a.w⟩,decide (Jh a.c.kind≠0∧a.k+1=(Jh a.c.kind:Int)+1),decide (a.k+1=a.c.t)):=(if_neg h).trans (if_neg h2)
def wt (ws:List Bool)(i:Nat):Bool:=ws.getD i false
structure CoT where
 r:Rg
 wh:Int
 got:List Int
 a:AtT
 b:Int
 nmi:Bool
 was:Bool
 off:Bool
structure LnT where
 wait:Bool
 bus:Bool
 irq:Bool
 nmi:Bool
 reset:Bool
def Qr:LnT:=⟨false,false,false,false,false⟩
def at0 (c:Cy):AtT:=⟨c,0,0⟩
def zeroCo:CoT:=⟨Ja,0,[],at0 JL,0,false,false,false⟩
def CoT.start (c:CoT)(r:Rg)(wh:Int):CoT:={ c with r:=r,wh:=wh,got:=[],a:=at0 (Jr r wh []).c }
def QBc (r:Rg):CoT:=zeroCo.start r 0
def CoT.note (c:CoT)(n:Bool):CoT:={ c with nmi:=c.nmi||(n&&!c.was),was:=n }
def QAC (k:Int):Bool:=k==3||k==5
def CoT.pass (c:CoT)(a:AtT)(jk:Bool)(b:Int):CoT:={ c with a:=a,b:=if jk then (if QAC a.c.kind then 0 else b) else c.b }
def CoT.choose (c:CoT)(r:Rg)(irq:Bool):CoT:={ c with nmi:=if ZS r c.nmi irq=1 then false else c.nmi }.start r (ZS r c.nmi irq)
def CoT.leaves (c:CoT):Bool:=c.a.c.kind != 7
def CoT.go1 (c:CoT)(T:T3)(irq:Bool):CoT:=if T.b then c.choose T.g irq else { c with a:=at0 T.c }
def CoT.fin1 (c:CoT)(irq:Bool):CoT:={ c with got:=c.got++[c.b],b:=0 }.go1 (Jr c.r c.wh (c.got++[c.b])) irq
def CoT.fin (c:CoT)(l:LnT):CoT:={ c.fin1 l.irq with off:=l.bus&&(c.fin1 l.irq).leaves }
def Xr (c:CoT)(l:LnT)(b:Int):CoT :=
 if l.reset=true then { QBc (jt c.r) with was:=l.nmi } else
 if c.off=true then { c.note l.nmi with off:=l.bus } else
 if (QJ c.a l.wait).2.2=true then ((c.note l.nmi).pass (QJ c.a l.wait).1 (QJ c.a l.wait).2.1 b).fin l else (c.note l.nmi).pass (QJ c.a l.wait).1 (QJ c.a l.wait).2.1 b
def Xh (c:CoT)(l:LnT):Bool:=!l.reset&&(!c.off&&(QJ c.a l.wait).2.1)
def ju (c:CoT)(l:LnT):Cy:=if Xh c l=true then c.a.c else JL
def QC6 (c:CoT)(l:LnT):Bool:=!l.reset&&(!c.off&&(QJ c.a l.wait).2.2)
def QF4 (c:CoT)(l:LnT)(b:Int):Bool:=QC6 c l&&(Xr c l b).leaves
def XG (c:CoT):Bool:=c.got.isEmpty&&(c.a.k==0&&c.a.w==0)
theorem QEb {c:CoT} {l:LnT}(h:l.reset=true)(b:Int):Xr c l b={ QBc (jt c.r) with was:=l.nmi }:=if_pos h
theorem QBD {c:CoT} {l:LnT}(h:l.reset=false)(h1:c.off=true)(b:Int):Xr c l b={ c.note l.nmi with off:=l.bus }:=(if_neg (by rw[h];simp)).trans (if_pos h1)
theorem QBE {c:CoT} {l:LnT} {t:AtT×Bool×Bool}(h:l.reset=false)(h1:c.off=false)(ht:QJ c.a l.wait=t)(h2:t.2.2=true)(b:Int):Xr c l b=((c.note l.nmi).pass t.1 t.2.1 b).fin l:=by
 subst ht
 exact (if_neg (by rw[h];simp)).trans ((if_neg (by rw[h1];simp)).trans (if_pos h2))
theorem QB5 {c:CoT} {l:LnT} {t:AtT×Bool×Bool}(h:l.reset=false)(h1:c.off=false)(ht:QJ c.a l.wait=t)(h2:t.2.2=false)(b:Int):Xr c l b=(c.note l.nmi).pass t.1 t.2.1 b:=by
 subst ht
 exact (if_neg (by rw[h];simp)).trans ((if_neg (by rw[h1];simp)).trans (if_neg (by rw[h2];simp)))
structure OkC (c:CoT):Prop where
 r:RgB c.r
 got:Bytes8 c.got
 b:B8 c.b
theorem QI8:RgB Ja:=by constructor<;>first|exact⟨by decide,by decide⟩|decide
theorem QG5 {g:Rg}(h:RgB g):RgB (jt g):=⟨h.af,h.bc,h.de,h.hl,h.af2,h.bc2,h.de2,h.hl2,h.ix,h.iy,h.sp,Wd16.zero,h.wz,B8.zero,B8.zero,⟨by show (-9223372036854775808:Int)≤0;decide,by show (0:Int)≤9223372036854775807;decide⟩⟩
theorem QHi:Bytes8 []:=fun _ h=>(by cases h)
theorem OkC.start {c:CoT}(h:B8 c.b){r:Rg}(hr:RgB r)(wh:Int):OkC (c.start r wh):=⟨hr,QHi,h⟩
theorem OkC.new {r:Rg}(hr:RgB r):OkC (QBc r):=OkC.start B8.zero hr 0
theorem QGh {xs:List Int} {b:Int}(h:Bytes8 xs)(hb:B8 b):Bytes8 (xs++[b]):=fun x hx=>by
 rcases List.mem_append.1 hx with k|k
 · exact h x k
 · rw[List.mem_singleton.1 k];exact hb
theorem OkC.fin (hA:jJ){c:CoT}(h:OkC c)(l:LnT):OkC (c.fin l):=by
 have hg:=QGh h.got h.b
 have k:=(hA c.r c.wh _ h.r hg).1
 have:OkC (c.fin1 l.irq):=by
  unfold CoT.fin1 CoT.go1
  split
  · rename_i e;exact OkC.start B8.zero (k e) _
  · exact⟨h.r,hg,B8.zero⟩
 exact⟨this.r,this.got,this.b⟩
theorem OkC.pass {c:CoT}(h:OkC c)(a:AtT)(m:Bool){b:Int}(hb:B8 b):OkC (c.pass a m b):=⟨h.r,h.got,by
 show B8 (if m=true then (if QAC a.c.kind=true then 0 else b) else c.b)
 split
 · split
   · exact B8.zero
   · exact hb
 · exact h.b⟩
theorem OkC.tick (hA:jJ){c:CoT}(h:OkC c)(l:LnT){b:Int}(hb:B8 b):OkC (Xr c l b):=by
 have h1:OkC (c.note l.nmi):=⟨h.r,h.got,h.b⟩
 unfold Xr
 split
 · have:=OkC.new (QG5 h.r);exact⟨this.r,this.got,this.b⟩
 · split
   · exact⟨h.r,h.got,h.b⟩
   · split
     · exact (h1.pass _ _ hb).fin hA l
     · exact h1.pass _ _ hb
theorem QI7 (c:CoT)(l:LnT)(b:Int):(Xr c l b).got.length≤c.got.length+1:=by
 have hf:∀ d:CoT,(d.fin l).got.length≤d.got.length+1:=fun d=>by
  show (d.fin1 l.irq).got.length≤_
  unfold CoT.fin1 CoT.go1
  split
  · show ([]:List Int).length≤_;simp
  · show (d.got++[d.b]).length≤_;simp
 unfold Xr
 split
 · show ([]:List Int).length≤_;simp
 · split
   · exact Nat.le_succ _
   · split
     · exact hf ((c.note l.nmi).pass (QJ c.a l.wait).1 (QJ c.a l.wait).2.1 b)
     · exact Nat.le_succ _
def QBF (g:Rg):Rg:={ ZI g 1 with pc:=(g.pc+1)%65536,late:=false }
theorem QCL (g:Rg):Jr g 0 []=QKf ⟨1,g.pc,0,4⟩:=by
 unfold Jr
 rw[if_neg (by decide),if_neg (by decide),QD3]
 rfl
theorem QQQ {g:Rg}(h:g.halted=false):Jr g 0 [0]=QJP (QBF g):=by
 unfold Jr
 rw[if_neg (by decide),if_neg (by decide),QAh h,zU (by decide)]
 rfl
end Go.Proofs.YtkenebbjodcbcaaGreatDoor
