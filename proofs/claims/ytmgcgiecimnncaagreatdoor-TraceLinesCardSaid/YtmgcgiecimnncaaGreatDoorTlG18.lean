/- Contracts and facts that the claim's proof wants (several texts in one). -/
import Derived.Maps.RangeWalk
import Derived.Laws.StructEq
import Derived.Test.YtmgcgiecimnncaaGreatDoorTlG17
namespace Go.Proofs.YtmgcgiecimnncaaGreatDoor
open Go.RowKit
set_option linter.unusedVariables false
set_option linter.unusedSimpArgs false
set_option maxRecDepth 20000
set_option maxHeartbeats 20000000
def QP (l:List (Int×Int))(a:Int):Int:=l.foldl (fun b c=>if c.1=a then c.2 else b) 0
def QDq (x:Int×Int):List (Int×Int)→List (Int×Int)
 | []=>[x]
 | y :: r=>if x.1 < y.1 then x :: y :: r else y :: QDq x r
def QE4 (a:Int)(m:List (Int×Int)):List (Int×Int):=m.filter fun p=>!decide (p.1=a)
def QJa (a b:Int)(m:List (Int×Int)):List (Int×Int):=QDq (a,b) (QE4 a m)
def Zg (m:List (Int×Int))(c:Int×Int):List (Int×Int):=if c.2=0 then QE4 c.1 m else QJa c.1 c.2 m
def mkS (l:List (Int×Int)):List (Int×Int):=l.foldl Zg []
def Srt (m:List (Int×Int)):Prop:=m.Pairwise fun x y=>x.1 < y.1
def Jk (l:List (Int×Int)):Prop:=∀ c∈l,0≤c.1∧c.1≤65535∧0≤c.2∧c.2≤255
def QCi (m:List (Int×Int)):Prop:=∀ c∈m,c.2≠0
theorem QFF {x p:Int×Int}:∀ {m:List (Int×Int)},p∈QDq x m↔p=x∨p∈m
 | []=>by simp[QDq]
 | y :: r=>by
   unfold QDq
   split
   · simp
   · simp only[List.mem_cons,QFF (m:=r)]
     constructor
     · rintro (h|h|h)
       · exact .inr (.inl h)
       · exact .inl h
       · exact .inr (.inr h)
     · rintro (h|h|h)
       · exact .inr (.inl h)
       · exact .inl h
       · exact .inr (.inr h)
theorem zY {a:Int} {m:List (Int×Int)} {p:Int×Int}:p∈QE4 a m↔p∈m∧p.1≠a:=by
 unfold QE4
 rw[List.mem_filter]
 simp
theorem QCJ {a b:Int} {m:List (Int×Int)} {p:Int×Int}:p∈QJa a b m↔p=(a,b)∨(p∈m∧p.1≠a):=by
 unfold QJa
 rw[QFF,zY]
theorem QH4 {x:Int×Int}:∀ {m:List (Int×Int)},Srt m→(∀ p∈m,p.1≠x.1)→Srt (QDq x m)
 | [],_,_=>by simp[QDq,Srt]
 | y :: r,h,hn=>by
   obtain⟨h1,h2⟩:=List.pairwise_cons.1 h
   unfold QDq
   split
   · rename_i hb
     refine List.pairwise_cons.2 ⟨fun q hq=>?_,h⟩
     rcases List.mem_cons.1 hq with rfl|hq
     · exact hb
     · exact Int.lt_trans hb (h1 q hq)
   · rename_i hb
     have hyx:y.1 < x.1:=by have:=hn y (by simp);omega
     refine List.pairwise_cons.2 ⟨fun q hq=>?_,QH4 h2 fun p hp=>hn p (by simp[hp])⟩
     rcases QFF.1 hq with rfl|hq
     · exact hyx
     · exact h1 q hq
theorem QJE {a:Int} {m:List (Int×Int)}(h:Srt m):Srt (QE4 a m):=h.filter _
theorem QO3 {a b:Int} {m:List (Int×Int)}(h:Srt m):Srt (QJa a b m):=QH4 (QJE h) fun p hp=>(zY.1 hp).2
theorem QOH {m:List (Int×Int)}(h:Srt m)(c:Int×Int):Srt (Zg m c):=by
 unfold Zg
 split
 · exact QJE h
 · exact QO3 h
theorem QFu:∀ (l:List (Int×Int)) {m:List (Int×Int)},Srt m→Srt (l.foldl Zg m)
 | [],_,h=>h
 | c :: r,_,h=>QFu r (QOH h c)
theorem QA7 (l:List (Int×Int)):Srt (mkS l):=QFu l List.Pairwise.nil
theorem QQm {m:List (Int×Int)}(h:QCi m)(c:Int×Int):QCi (Zg m c):=by
 unfold Zg
 split
 · exact fun p hp=>h p (zY.1 hp).1
 · rename_i hc
   intro p hp
   rcases QCJ.1 hp with rfl|hp
   · exact hc
   · exact h p hp.1
theorem QJX:∀ (l:List (Int×Int)) {m:List (Int×Int)},QCi m→QCi (l.foldl Zg m)
 | [],_,h=>h
 | c :: r,_,h=>QJX r (QQm h c)
theorem QPf (l:List (Int×Int)):QCi (mkS l):=QJX l fun _ h=>by cases h
theorem QPn {m:List (Int×Int)}(h:Jk m){c:Int×Int}(hc:0≤c.1∧c.1≤65535∧0≤c.2∧c.2≤255):Jk (Zg m c):=by
 unfold Zg
 split
 · exact fun p hp=>h p (zY.1 hp).1
 · intro p hp
   rcases QCJ.1 hp with rfl|hp
   · exact hc
   · exact h p hp.1
theorem QGN:∀ (l:List (Int×Int)) {m:List (Int×Int)},Jk l→Jk m→Jk (l.foldl Zg m)
 | [],_,_,h=>h
 | c :: r,_,hl,h=>QGN r (fun p hp=>hl p (by simp[hp])) (QPn h (hl c (by simp)))
theorem QCN {l:List (Int×Int)}(h:Jk l):Jk (mkS l):=QGN l h fun _ h=>by cases h
theorem QJY (a:Int)(m:List (Int×Int)):(QE4 a m).length≤m.length:=List.length_filter_le _ _
theorem QI4 (x:Int×Int):∀ m:List (Int×Int),(QDq x m).length=m.length+1
 | []=>rfl
 | y :: r=>by
   unfold QDq
   split
   · rfl
   · simp[QI4 x r]
theorem QNx (m:List (Int×Int))(c:Int×Int):(Zg m c).length≤m.length+1:=by
 unfold Zg
 split
 · have:=QJY c.1 m;omega
 · unfold QJa
   rw[QI4]
   have:=QJY c.1 m
   omega
theorem QGW:∀ (l m:List (Int×Int)),(l.foldl Zg m).length≤m.length+l.length
 | [],m=>by simp
 | c :: r,m=>by
   have h1:=QGW r (Zg m c)
   have h2:=QNx m c
   simp only[List.foldl_cons,List.length_cons]
   omega
theorem QHH (l:List (Int×Int)):(mkS l).length≤l.length:=by have:=QGW l [];unfold mkS;simpa using this
theorem QCV:∀ {l m:List (Int×Int)},Srt l→Srt m→(∀ p,p∈l↔p∈m)→l=m
 | [],[],_,_,_=>rfl
 | [],b :: s,_,_,h=>by have:=(h b).2 (by simp);simp at this
 | a :: r,[],_,_,h=>by have:=(h a).1 (by simp);simp at this
 | a :: r,b :: s,h1,h2,h=>by
   obtain⟨a1,a2⟩:=List.pairwise_cons.1 h1
   obtain⟨b1,b2⟩:=List.pairwise_cons.1 h2
   have hab:a=b:=by
    rcases List.mem_cons.1 ((h a).1 (by simp)) with e|ha
    · exact e
    · rcases List.mem_cons.1 ((h b).2 (by simp)) with e|hb
      · exact e.symm
      · have:=a1 b hb;have:=b1 a ha;omega
   subst hab
   rw[QCV a2 b2 fun p=>⟨fun hp=>by
    rcases List.mem_cons.1 ((h p).1 (by simp[hp])) with e|hp'
    · have:=a1 p hp;rw[e] at this;omega
    · exact hp',fun hp=>by
    rcases List.mem_cons.1 ((h p).2 (by simp[hp])) with e|hp'
    · have:=b1 p hp;rw[e] at this;omega
    · exact hp'⟩]
theorem QL6 {m:List (Int×Int)}(h:Srt m):∀ {p q:Int×Int},p∈m→q∈m→p.1=q.1→p=q:=by
 induction m with
 | nil=>intro p q hp;cases hp
 | cons a r ih =>
   obtain⟨a1,a2⟩:=List.pairwise_cons.1 h
   intro p q hp hq e
   rcases List.mem_cons.1 hp with e1|hp'<;>rcases List.mem_cons.1 hq with e2|hq'
   · rw[e1,e2]
   · have:=a1 q hq';rw[e1] at e;omega
   · have:=a1 p hp';rw[e2] at e;omega
   · exact ih a2 hp' hq' e
theorem Zp (l:List (Int×Int))(c:Int×Int)(a:Int):QP (l++[c]) a=if c.1=a then c.2 else QP l a:=by unfold QP;rw[List.foldl_append];rfl
theorem QH5 (l:List (Int×Int))(c:Int×Int):mkS (l++[c])=Zg (mkS l) c:=by unfold mkS;rw[List.foldl_append];rfl
theorem QAq (l:List (Int×Int)):∀ p:Int×Int,p∈mkS l↔QP l p.1=p.2∧p.2≠0:=by
 have key:∀ (n:Nat) (l:List (Int×Int)),l.length=n→∀ p:Int×Int,p∈mkS l↔QP l p.1=p.2∧p.2≠0:=by
  intro n
  induction n with
  | zero =>
    intro l hl p
    obtain rfl:=List.eq_nil_of_length_eq_zero hl
    constructor
    · intro h;cases h
    · rintro ⟨h1,h2⟩;exact absurd h1.symm h2
  | succ n ih =>
    intro l hl p
    obtain⟨l',c,rfl⟩:∃ l' c,l=l'++[c]:=⟨l.dropLast,l.getLast (by intro h;rw[h] at hl;cases hl),(List.dropLast_concat_getLast _).symm⟩
    have ih:=ih l' (by simpa using hl)
    rw[QH5,Zp]
    unfold Zg
    by_cases hc:c.1=p.1
    · rw[if_pos hc]
      split
      · rename_i h0
        rw[zY]
        constructor
        · rintro ⟨-,h⟩;exact absurd hc.symm h
        · rintro ⟨h1,h2⟩;exact absurd (h1.symm.trans h0) h2
      · rename_i h0
        rw[QCJ]
        constructor
        · rintro (rfl|⟨-,h⟩)
          · exact⟨rfl,h0⟩
          · exact absurd hc.symm h
        · rintro ⟨h1,h2⟩
          exact .inl (Prod.ext hc.symm h1.symm)
    · rw[if_neg hc]
      have hne:p.1≠c.1:=fun e=>hc e.symm
      split
      · rw[zY,ih]
        exact⟨fun h=>h.1,fun h=>⟨h,hne⟩⟩
      · rw[QCJ,ih]
        constructor
        · rintro (rfl|h)
          · exact absurd rfl hc
          · exact h.1
        · exact fun h=>.inr ⟨h,hne⟩
 exact key _ l rfl
theorem QFJ (l:List (Int×Int))(a:Int)(h:QP l a≠0):∃ c∈l,c.1=a:=by
 have key:∀ (n:Nat) (l:List (Int×Int)),l.length=n→QP l a≠0→∃ c∈l,c.1=a:=by
  intro n
  induction n with
  | zero =>
    intro l hl h
    obtain rfl:=List.eq_nil_of_length_eq_zero hl
    exact absurd rfl h
  | succ n ih =>
    intro l hl h
    obtain⟨l',c,rfl⟩:∃ l' c,l=l'++[c]:=⟨l.dropLast,l.getLast (by intro h;rw[h] at hl;cases hl),(List.dropLast_concat_getLast _).symm⟩
    rw[Zp] at h
    split at h
    · rename_i e;exact⟨c,by simp,e⟩
    · obtain⟨d,hd,e⟩:=ih l' (by simpa using hl) h
      exact⟨d,by simp[hd],e⟩
 exact key _ l rfl h
theorem QE8 {m:List (Int×Int)}(h:Srt m){p:Int×Int}(hp:p∈m):QP m p.1=p.2:=by
 have key:∀ (n:Nat) (m:List (Int×Int)),m.length=n→Srt m→p∈m→QP m p.1=p.2:=by
  intro n
  induction n with
  | zero =>
    intro m hm _ hp
    obtain rfl:=List.eq_nil_of_length_eq_zero hm
    cases hp
  | succ n ih =>
    intro m hm hs hp
    obtain⟨l',c,rfl⟩:∃ l' c,m=l'++[c]:=⟨m.dropLast,m.getLast (by intro h;rw[h] at hm;cases hm),(List.dropLast_concat_getLast _).symm⟩
    rw[Zp]
    have hs':=List.pairwise_append.1 hs
    by_cases hc:c.1=p.1
    · rw[if_pos hc,QL6 hs (p:=c) (q:=p) (by simp) hp hc]
    · rw[if_neg hc]
      refine ih l' (by simpa using hm) hs'.1 ?_
      rcases List.mem_append.1 hp with h|h
      · exact h
      · simp at h;exact absurd (congrArg Prod.fst h).symm hc
 exact key _ m rfl h hp
theorem QSA {l:List (Int×Int)} {m:List (Int×Int)}(h:Srt m)(hn:QCi m)(hg:∀ a,QP m a=QP l a):mkS l=m :=
 QCV (QA7 l) h fun p=>by
  rw[QAq,←hg]
  constructor
  · rintro ⟨h1,h2⟩
    obtain⟨c,hc,e⟩:=QFJ m p.1 (by rw[h1];exact h2)
    have:=QE8 h hc
    rw[e,h1] at this
    have:c=p:=Prod.ext e this.symm
    exact this▸hc
  · exact fun hp=>⟨QE8 h hp,hn p hp⟩
theorem QP1 (l:List (Int×Int))(a:Int):QP (mkS l) a=QP l a:=by
 by_cases h:QP l a=0
 · rw[h]
   by_cases h2:QP (mkS l) a=0
   · exact h2
   · obtain⟨c,hc,rfl⟩:=QFJ _ _ h2
     exact absurd ((QAq l c).1 hc).1 (by rw[h];exact fun e=>(QPf l c hc) e.symm)
 · exact QE8 (QA7 l) (p:=(a,QP l a)) ((QAq l _).2 ⟨rfl,h⟩)
theorem QNi {l l':List (Int×Int)}(h:∀ a,QP l a=QP l' a):mkS l=mkS l':=QSA (QA7 l') (QPf l') fun a=>by rw[QP1,h]
theorem QMA {l:List (Int×Int)}(h:Jk l)(a:Int):0≤QP l a∧QP l a≤255:=by
 have key:∀ (l:List (Int×Int)) (b:Int),Jk l→0≤b∧b≤255→0≤l.foldl (fun b c=>if c.1=a then c.2 else b) b∧l.foldl (fun b c=>if c.1=a then c.2 else b) b≤255:=by
  intro l
  induction l with
  | nil=>intro b _ hb;exact hb
  | cons c r ih =>
    intro b hl hb
    refine ih _ (fun p hp=>hl p (by simp[hp])) ?_
    have:=hl c (by simp)
    show 0≤(if c.1=a then c.2 else b)∧(if c.1=a then c.2 else b)≤255
    by_cases e:c.1=a
    · rw[if_pos e];exact⟨this.2.2.1,this.2.2.2⟩
    · rw[if_neg e];exact hb
 exact key l 0 h ⟨by omega,by omega⟩
def zQ (l0:List (Int×Int))(last best:Int)(c:Int×Int):Int:=if decide (c.1 > last)&&decide (c.1 < best)&&(QP l0 c.1 != 0) then c.1 else best
def QDD (l0:List (Int×Int))(last:Int)(l:List (Int×Int)):Int:=l.foldl (zQ l0 last) 65536
theorem QEd (l0:List (Int×Int))(last:Int):∀ (l:List (Int×Int)) (b:Int),l.foldl (zQ l0 last) b≤b∧(l.foldl (zQ l0 last) b=b∨∃ c∈l,c.1=l.foldl (zQ l0 last) b∧c.1 > last∧QP l0 c.1≠0)∧∀ c∈l,c.1 > last→QP l0 c.1≠0→l.foldl (zQ l0 last) b≤c.1
 | [],b=>⟨Int.le_refl _,.inl rfl,fun _ h=>by cases h⟩
 | c :: r,b=>by
   obtain⟨h1,h2,h3⟩:=QEd l0 last r (zQ l0 last b c)
   simp only[List.foldl_cons]
   generalize hg:r.foldl (zQ l0 last) (zQ l0 last b c)=g at h1 h2 h3 ⊢
   by_cases hc:(decide (c.1 > last)&&decide (c.1 < b)&&(QP l0 c.1 != 0))=true
   · have e:zQ l0 last b c=c.1:=if_pos hc
     simp only[Bool.and_eq_true,decide_eq_true_eq,bne_iff_ne] at hc
     rw[e] at h1 h2
     refine⟨by omega,.inr ?_,fun d hd a1 a2=>?_⟩
     · rcases h2 with h2|⟨d,hd,e1,e2⟩
       · exact⟨c,by simp,h2.symm,hc.1.1,hc.2⟩
       · exact⟨d,by simp[hd],e1,e2⟩
     · rcases List.mem_cons.1 hd with rfl|hd
       · exact h1
       · exact h3 d hd a1 a2
   · have e:zQ l0 last b c=b:=if_neg hc
     rw[e] at h1 h2
     refine⟨h1,?_,fun d hd a1 a2=>?_⟩
     · rcases h2 with h2|⟨d,hd,e1,e2⟩
       · exact .inl h2
       · exact .inr ⟨d,by simp[hd],e1,e2⟩
     · rcases List.mem_cons.1 hd with rfl|hd
       · have:¬(d.1 < b):=fun hlt=>hc (by simp[a1,a2,hlt])
         omega
       · exact h3 d hd a1 a2
theorem QKA (l0:List (Int×Int))(last:Int)(l:List (Int×Int))(k:Nat)(h:k < l.length):QDD l0 last (l.take (k+1))=zQ l0 last (QDD l0 last (l.take k)) l[k]:=by
 unfold QDD
 rw[←List.take_append_getElem h,List.foldl_append]
 rfl
theorem QNe {l out rest:List (Int×Int)} {last:Int}(h16:Jk l)(hm:mkS l=out++rest)(ho:∀ p∈out,p.1≤last)(hr:∀ p∈rest,last < p.1) :
 QDD l last l=(match rest with|[]=>65536|c :: _=>c.1):=by
 obtain⟨h1,h2,h3⟩:=QEd l last l 65536
 unfold QDD
 generalize l.foldl (zQ l last) 65536=b at h1 h2 h3 ⊢
 have inM:∀ a,QP l a≠0→(a,QP l a)∈out++rest:=fun a ha=>by rw[←hm];exact (QAq l _).2 ⟨rfl,ha⟩
 have hs:Srt (out++rest):=by rw[←hm];exact QA7 l
 cases rest with
 | nil =>
   rcases h2 with h2|⟨c,hc,e1,e2,e3⟩
   · exact h2
   · have:=inM _ e3
     rw[List.append_nil] at this
     have:=ho _ this
     simp at this
     omega
 | cons d r =>
   show b=d.1
   have hd:d∈mkS l:=by rw[hm];simp
   obtain⟨g1,g2⟩:=(QAq l d).1 hd
   have hb:b≤d.1:=by
    obtain⟨c,hc,e⟩:=QFJ l d.1 (by rw[g1];exact g2)
    have:=h3 c hc (by rw[e];exact hr d (by simp)) (by rw[e,g1];exact g2)
    rw[e] at this
    exact this
   have h65:=(QCN h16 d hd).2.1
   rcases h2 with h2|⟨c,hc,e1,e2,e3⟩
   · omega
   · have hin:=inM _ e3
     rcases List.mem_append.1 hin with hin|hin
     · have:=ho _ hin
       simp at this
       omega
     · rcases List.mem_cons.1 hin with e|hin
       · rw[←e1,←e]
       · have:=(List.pairwise_cons.1 (List.pairwise_append.1 hs).2.1).1 _ hin
         simp at this
         omega
def Q0 (a:Int):List Int→List (Int×Int)
 | []=>[]
 | b :: r=>(a,b) :: Q0 ((a+1)%65536) r
theorem QBt:∀ (bs cs:List Int) (a:Int),0≤a∧a≤65535→Q0 a (bs++cs)=Q0 a bs++Q0 ((a+(bs.length:Int))%65536) cs
 | [],cs,a,h=>by simp only[List.nil_append,Q0,List.length_nil];congr 1;omega
 | b :: r,cs,a,h=>by
   simp only[List.cons_append,Q0]
   have e:((a+1)%65536+(r.length:Int))%65536=(a+((b :: r).length:Int))%65536:=by rw[List.length_cons];omega
   rw[QBt r cs _ (by omega),e]
theorem QLD (bs:List Int)(a:Int)(h:0≤a∧a≤65535)(k:Nat)(hk:k < bs.length):Q0 a (bs.take (k+1))=Q0 a (bs.take k)++[((a+(k:Int))%65536,bs[k])]:=by
 rw[←List.take_append_getElem hk,QBt _ _ _ h,List.length_take,Nat.min_eq_left (by omega)]
 rfl
theorem QBw:∀ (bs:List Int) (a:Int),(Q0 a bs).length=bs.length
 | [],_=>rfl
 | b :: r,a=>by simp only[Q0,List.length_cons,QBw r]
theorem QF1:∀ (bs:List Int) (a:Int),(∀ b∈bs,0≤b∧b≤255)→0≤a∧a≤65535→Jk (Q0 a bs)
 | [],_,_,_=>fun _ h=>by cases h
 | b :: r,a,hb,ha=>by
   intro c hc
   rcases List.mem_cons.1 hc with rfl|hc
   · have:=hb b (by simp)
     exact⟨ha.1,ha.2,this.1,this.2⟩
   · exact QF1 r _ (fun x hx=>hb x (by simp[hx])) (by omega) c hc
theorem QEA {l m:List (Int×Int)}(h:Jk l)(k:Jk m):Jk (l++m):=fun c hc=>(List.mem_append.1 hc).elim (h c) (k c)
def QW (l:List (Int×Int))(a:Int)(N:Nat):List Int:=(List.range N).map fun (i:Nat)=>QP l ((a+(i:Int))%65536)
def jx (l:List (Int×Int))(a n:Int):List Int:=QW l a (min n.toNat 4096)
theorem Xr (l:List (Int×Int))(a:Int)(N:Nat):(QW l a N).length=N:=by simp[QW]
theorem QQN {l:List (Int×Int)}(h:Jk l)(a:Int)(N:Nat):∀ x∈QW l a N,0≤x∧x≤255:=by
 intro x hx
 obtain⟨i,-,rfl⟩:=List.mem_map.1 hx
 exact QMA h _
theorem QNo (a:Int)(N:Nat):QW [] a N=List.replicate N 0:=by
 unfold QW
 apply List.ext_getElem
 · simp
 · intro i h1 h2
   simp[QP]
theorem QMR (l:List (Int×Int))(c:Int×Int)(a:Int)(N:Nat)(ha:0≤a∧a≤65535)(hc:0≤c.1∧c.1≤65535)(hN:N≤65536):QW (l++[c]) a N=(QW l a N).set ((c.1-a)%65536).toNat c.2:=by
 apply List.ext_getElem
 · simp[QW]
 · intro i h1 h2
   rw[List.getElem_set]
   have hi:i < N:=by simpa [QW] using h1
   simp only[QW,List.getElem_map,List.getElem_range,Zp]
   by_cases e:c.1=(a+(i:Int))%65536
   · rw[if_pos e,if_pos (by omega)]
   · rw[if_neg e,if_neg (by omega)]
theorem QKD (l:List (Int×Int))(a:Int)(N:Nat):QW l a (N+1)=QW l a N++[QP l ((a+(N:Int))%65536)]:=by
 unfold QW
 rw[List.range_succ,List.map_append]
 rfl
def dm (m:List (Int×Int)):DataW Unit:=.map (m.map fun c=>(Lit.int .u16 c.1,.lit (.int .u8 c.2)))
theorem QHC (a b:Int):(Lit.int .u16 a).sameKey (.int .u16 b)=decide (a=b):=by simp[Lit.sameKey]
theorem QFw (x:Int×Int):∀ m:List (Int×Int),DataW.insert (Lit.int .u16 x.1,(DataW.lit (.int .u8 x.2):DataW Unit)) (m.map fun c=>(Lit.int .u16 c.1,.lit (.int .u8 c.2)))=(QDq x m).map fun c=>(Lit.int .u16 c.1,.lit (.int .u8 c.2))
 | []=>rfl
 | y :: r=>by
   unfold QDq
   rw[List.map_cons,DataW.insert]
   by_cases h:x.1 < y.1
   · rw[if_pos h]
     exact if_pos (decide_eq_true h)
   · rw[if_neg h,List.map_cons,←QFw x r]
     exact if_neg (fun e=>h (of_decide_eq_true e))
theorem QCc (a:Int):∀ m:List (Int×Int),((m.map fun c=>(Lit.int .u16 c.1,(DataW.lit (.int .u8 c.2):DataW Unit))).filter fun p=>!p.1.sameKey (.int .u16 a))=(QE4 a m).map fun c=>(Lit.int .u16 c.1,.lit (.int .u8 c.2))
 | []=>rfl
 | y :: r=>by
   have ih:=QCc a r
   unfold QE4 at ih ⊢
   simp only[List.map_cons,List.filter_cons,QHC]
   split
   · rw[List.map_cons,ih]
   · exact ih
theorem QVY (m:List (Int×Int))(a b:Int):(dm m).put (.int .u16 a) (.lit (.int .u8 b))=dm (QJa a b m):=by
 unfold dm QJa
 show DataW.map _=DataW.map _
 rw[QCc]
 exact congrArg DataW.map (QFw (a,b) (QE4 a m))
theorem QV6 (m:List (Int×Int))(a:Int):(dm m).del (.int .u16 a)=dm (QE4 a m):=by
 unfold dm
 show DataW.map _=DataW.map _
 rw[QCc]
theorem QVz (m:List (Int×Int))(a:Int):Maps.has (dm m) (.int .u16 a)=m.any fun p=>decide (p.1=a):=by
 unfold dm
 rw[Maps.has_eq,List.any_map]
 congr 1
 funext p
 exact QHC _ _
theorem QMH (m:List (Int×Int)):Maps.size (dm m)=m.length:=by unfold dm;rw[Maps.size_eq,List.length_map]
theorem QVJ {m:List (Int×Int)} {x c:Int}(h:∀ zd,(dm m).atKey (.int .u16 x) zd=.lit (.int .u8 c)):(x,c)∈m:=by
 have h1:=h (.lit (.bool true))
 unfold dm DataW.atKey at h1
 simp only at h1
 split at h1
 · rename_i p hp
   obtain⟨d,hd,e⟩:=List.mem_map.1 (List.mem_of_find?_eq_some hp)
   subst e
   have hk:=List.find?_some hp
   simp only[QHC,decide_eq_true_eq] at hk
   simp at h1
   have:d=(x,c):=Prod.ext hk h1
   exact this▸hd
 · cases h1
structure Sx where
 got:List Int
 m:List (Int×Int)
 p:List Int
 l:List Cy
 n:Int
structure Wd where
 g:Rg
 m:List (Int×Int)
 p:List Int
def qc (c:Cy)(v:Int)(m:List (Int×Int))(p:List Int):Int :=
 if c.kind=1∨c.kind=2 then QP m c.addr else if c.kind=4 then p.headD 255 else if c.kind=6 then v else 0
def Zj (c:Cy)(m:List (Int×Int)):List (Int×Int):=if c.kind=3 then m++[(c.addr,c.data)] else m
def jP (c:Cy)(p:List Int):List Int:=if c.kind=4 then p.tail else p
def jE (c:Cy)(b:Int):Cy:=if c.kind=3∨c.kind=5 then c else { c with data:=b }
def QG7 (c:Cy)(b:Int)(l:List Cy):List Cy:=if c.kind=7 then l else l++[jE c b]
def QQ (c:Cy)(v:Int)(x:Sx):Sx:=⟨x.got++[qc c v x.m x.p],Zj c x.m,jP c x.p,QG7 c (qc c v x.m x.p) x.l,x.n+c.t⟩
def goS (g:Rg)(which v:Int):Nat→Sx→Sx
 | 0,x=>x
 | k+1,x=>if (J5 g which x.got).b=true then x else goS g which v k (QQ (J5 g which x.got).c v x)
def QGe (w:Wd):Sx:=⟨[],w.m,w.p,[],0⟩
def Js (w:Wd)(which v:Int):Sx:=goS w.g which v 200 (QGe w)
def ju (g:Rg)(which:Int)(x:Sx):Rg:=if (J5 g which x.got).b=true then (J5 g which x.got).g else g
def Qx (w:Wd)(which v:Int):Wd:=⟨ju w.g which (Js w which v),(Js w which v).m,(Js w which v).p⟩
def QUu:Nat→Wd→Wd×Int
 | 0,w=>(w,0)
 | k+1,w=>((QUu k (Qx w 0 0)).1,(Js w 0 0).n+(QUu k (Qx w 0 0)).2)
def SameM (m m':List (Int×Int)):Prop:=∀ a,QP m a=QP m' a
theorem SameM.refl (m:List (Int×Int)):SameM m m:=fun _=>rfl
theorem SameM.symm {m m':List (Int×Int)}(h:SameM m m'):SameM m' m:=fun a=>(h a).symm
theorem SameM.trans {a b c:List (Int×Int)}(h:SameM a b)(k:SameM b c):SameM a c:=fun x=>(h x).trans (k x)
theorem SameM.snoc {m m':List (Int×Int)}(h:SameM m m')(c:Int×Int):SameM (m++[c]) (m'++[c]):=fun a=>by rw[Zp,Zp,h a]
theorem SameM.mk {m m':List (Int×Int)}(h:SameM m m'):mkS m=mkS m':=QNi h
structure SimW (w u:Wd):Prop where
 g:w.g=u.g
 m:SameM w.m u.m
 p:w.p=u.p
theorem SimW.refl (w:Wd):SimW w w:=⟨rfl,.refl _,rfl⟩
def itS (g:Rg)(which v:Int):Nat→Sx→Sx
 | 0,x=>x
 | j+1,x=>QQ (J5 g which (itS g which v j x).got).c v (itS g which v j x)
theorem QA3 (g:Rg)(which v:Int):∀ (j:Nat) (x:Sx),itS g which v (j+1) x=itS g which v j (QQ (J5 g which x.got).c v x)
 | 0,x=>rfl
 | j+1,x=>by
   have ih:=QA3 g which v j x
   rw[itS,ih,itS]
theorem QQP (g:Rg)(which v:Int):∀ (k:Nat) (x:Sx),∃ N,N≤k∧goS g which v k x=itS g which v N x∧(∀ j,j < N→(J5 g which (itS g which v j x).got).b=false)∧(N < k→(J5 g which (itS g which v N x).got).b=true)
 | 0,x=>⟨0,Nat.le_refl _,rfl,fun j h=>by omega,fun h=>by omega⟩
 | k+1,x=>by
   by_cases hb:(J5 g which x.got).b=true
   · exact⟨0,by omega,by rw[goS,if_pos hb];rfl,fun j h=>by omega,fun _=>hb⟩
   · obtain⟨N,h1,h2,h3,h4⟩:=QQP g which v k (QQ (J5 g which x.got).c v x)
     refine⟨N+1,by omega,by rw[goS,if_neg hb,h2,QA3],fun j hj=>?_,fun h=>?_⟩
     · cases j with
       | zero=>show (J5 g which x.got).b=false;simpa using hb
       | succ j=>rw[QA3];exact h3 j (by omega)
     · rw[QA3];exact h4 (by omega)
theorem QI6 (w:Wd)(which v:Int):∃ N,N≤200∧Js w which v=itS w.g which v N (QGe w)∧(∀ j,j < N→(J5 w.g which (itS w.g which v j (QGe w)).got).b=false)∧(N < 200→(J5 w.g which (itS w.g which v N (QGe w)).got).b=true):=QQP _ _ _ _ _
theorem QUI (g:Rg)(which v:Int)(x:Sx):∀ (N:Nat),(∀ j,j < N→(J5 g which (itS g which v j x).got).b=false)→x.n+N≤(itS g which v N x).n∧(itS g which v N x).n≤x.n+7*N
 | 0,_=>by simp[itS]
 | N+1,h=>by
   have ih:=QUI g which v x N fun j hj=>h j (by omega)
   have ht:=QUO g which _ (h N (by omega))
   simp only[itS,QQ]
   omega
theorem QSM (w:Wd)(which v:Int):0≤(Js w which v).n∧(Js w which v).n≤1400:=by
 obtain⟨N,h1,h2,h3,-⟩:=QI6 w which v
 have:=QUI w.g which v (QGe w) N h3
 rw[h2]
 have e:(QGe w).n=0:=rfl
 omega
theorem QIH (c:Cy)(m:List (Int×Int)):(Zj c m).length≤m.length+1:=by
 unfold Zj
 split
 · simp
 · omega
theorem QH7 (g:Rg)(which v:Int)(x:Sx)(j:Nat):∀ k,(itS g which v (j+k) x).m.length≤(itS g which v j x).m.length+k
 | 0=>Nat.le_refl _
 | k+1=>by
   have ih:=QH7 g which v x j k
   have:=QIH (J5 g which (itS g which v (j+k) x).got).c (itS g which v (j+k) x).m
   show (Zj (J5 g which (itS g which v (j+k) x).got).c (itS g which v (j+k) x).m).length≤_
   omega
theorem QED (w:Wd)(which v:Int):(Js w which v).m.length≤w.m.length+200:=by
 obtain⟨N,h1,h2,-,-⟩:=QI6 w which v
 rw[h2]
 have:=QH7 w.g which v (QGe w) 0 N
 rw[Nat.zero_add] at this
 simp only[itS,QGe] at this ⊢
 omega
theorem QOe (c:Cy)(p:List Int):(jP c p).length≤p.length:=by
 unfold jP
 split
 · simp
 · omega
theorem QIB (g:Rg)(which v:Int):∀ (k:Nat) (x:Sx),(goS g which v k x).p.length≤x.p.length
 | 0,x=>Nat.le_refl _
 | k+1,x=>by
   unfold goS
   split
   · exact Nat.le_refl _
   · exact Nat.le_trans (QIB g which v k _) (QOe _ _)
theorem QET (w:Wd)(which v:Int):(Js w which v).p.length≤w.p.length:=QIB _ _ _ _ _
def zM:Prop:=∀ (g:Rg) (which:Int) (xs:List Int),RgB g→Bytes8 xs→((J5 g which xs).b=true→RgB (J5 g which xs).g)∧((J5 g which xs).b=false→Wd16 (J5 g which xs).c.addr∧B8 (J5 g which xs).c.data)
structure OkS (x:Sx):Prop where
 got:Bytes8 x.got
 m:Jk x.m
 p:Bytes8 x.p
structure OkW (w:Wd):Prop where
 g:RgB w.g
 m:Jk w.m
 p:Bytes8 w.p
theorem OkW.beg {w:Wd}(h:OkW w):OkS (QGe w):=⟨fun x hx=>(by cases hx),h.m,h.p⟩
theorem QO4 {p:List Int}(h:Bytes8 p):B8 (p.headD 255):=by
 cases p with
 | nil=>exact⟨by decide,by decide⟩
 | cons b r=>exact h.head
theorem QLk {x:Sx}(h:OkS x)(c:Cy){v:Int}(hv:B8 v):B8 (qc c v x.m x.p):=by
 unfold qc
 split
 · exact QMA h.m _
 split
 · exact QO4 h.p
 split
 · exact hv
 · exact B8.zero
theorem Bytes8.snoc {xs:List Int}(h:Bytes8 xs){b:Int}(hb:B8 b):Bytes8 (xs++[b]):=fun x hx=>by
 rcases List.mem_append.1 hx with e|e
 · exact h x e
 · rw[List.mem_singleton.1 e];exact hb
theorem Bytes8.tl {p:List Int}(h:Bytes8 p):Bytes8 p.tail:=fun x hx=>h x (List.mem_of_mem_tail hx)
theorem OkS.next {x:Sx}(h:OkS x){c:Cy}(hc:Wd16 c.addr∧B8 c.data){v:Int}(hv:B8 v):OkS (QQ c v x):=by
 refine⟨h.got.snoc (QLk h c hv),?_,?_⟩
 · show Jk (Zj c x.m)
   unfold Zj
   split
   · exact QEA h.m fun d hd=>by
      rw[List.mem_singleton.1 hd]
      exact⟨hc.1.1,hc.1.2,hc.2.1,hc.2.2⟩
   · exact h.m
 · show Bytes8 (jP c x.p)
   unfold jP
   split
   · exact h.p.tl
   · exact h.p
theorem OkS.go (hA:zM){g:Rg}(hg:RgB g)(which:Int){v:Int}(hv:B8 v):∀ (k:Nat) {x:Sx},OkS x→OkS (goS g which v k x)
 | 0,x,h=>h
 | k+1,x,h=>by
   unfold goS
   split
   · exact h
   · rename_i hb
     exact OkS.go hA hg which hv k (h.next ((hA g which x.got hg h.got).2 (by simpa using hb)) hv)
theorem OkW.x (hA:zM){w:Wd}(h:OkW w)(which:Int){v:Int}(hv:B8 v):OkS (Js w which v):=h.beg.go hA h.g which hv 200
theorem OkW.pstepW (hA:zM){w:Wd}(h:OkW w)(which:Int){v:Int}(hv:B8 v):OkW (Qx w which v):=by
 have k:=h.x hA which hv
 refine⟨?_,k.m,k.p⟩
 show RgB (ju w.g which _)
 unfold ju
 split
 · rename_i hb
   exact (hA _ _ _ h.g k.got).1 hb
 · exact h.g
theorem OkW.run (hA:zM):∀ (k:Nat) {w:Wd},OkW w→OkW (QUu k w).1
 | 0,w,h=>h
 | k+1,w,h=>OkW.run hA k (h.pstepW hA 0 B8.zero)
def wrS (l:List Cy)(m:List (Int×Int)):List (Int×Int):=l.foldl (fun m c=>Zj c m) m
def inS (l:List Cy):Nat:=(l.filter fun c=>decide (c.kind=4)).length
theorem QTm (l:List Cy)(c:Cy)(m:List (Int×Int)):wrS (l++[c]) m=Zj c (wrS l m):=by unfold wrS;rw[List.foldl_append];rfl
theorem QRr (l:List Cy)(c:Cy):inS (l++[c])=if c.kind=4 then inS l+1 else inS l:=by
 unfold inS
 rw[List.filter_append,List.length_append]
 by_cases h:c.kind=4<;>simp[h]
structure TellS (v:Int)(m0:List (Int×Int))(p0:List Int)(x:Sx):Prop where
 m:x.m=wrS x.l m0
 p:x.p=p0.drop (inS x.l)
 at_:∀ (k:Nat) (h:k < x.l.length),x.l[k].kind≠7∧(x.l[k].kind=1∨x.l[k].kind=2→x.l[k].data=QP (wrS (x.l.take k) m0) x.l[k].addr)∧(x.l[k].kind=6→x.l[k].data=v)
theorem QCD (c:Cy)(b:Int):(jE c b).kind=c.kind:=by unfold jE;split<;>rfl
theorem QH0 (c:Cy)(b:Int):(jE c b).addr=c.addr:=by unfold jE;split<;>rfl
theorem QTQ (c:Cy)(b:Int)(m:List (Int×Int)):Zj (jE c b) m=Zj c m:=by
 unfold Zj
 rw[QCD,QH0]
 by_cases h:c.kind=3
 · rw[if_pos h,if_pos h]
   unfold jE
   rw[if_pos (.inl h)]
 · rw[if_neg h,if_neg h]
theorem TellS.next {v:Int} {m0:List (Int×Int)} {p0:List Int} {x:Sx}(h:TellS v m0 p0 x)(c:Cy):TellS v m0 p0 (QQ c v x):=by
 obtain⟨h1,h2,h3⟩:=h
 by_cases h7:c.kind=7
 · have e:(QQ c v x).l=x.l:=by show QG7 c _ x.l=x.l;unfold QG7;rw[if_pos h7]
   have em:(QQ c v x).m=x.m:=by show Zj c x.m=x.m;unfold Zj;rw[if_neg (by omega)]
   have ep:(QQ c v x).p=x.p:=by show jP c x.p=x.p;unfold jP;rw[if_neg (by omega)]
   exact⟨by rw[em,e];exact h1,by rw[ep,e];exact h2,by rw[e];exact h3⟩
 · have e:(QQ c v x).l=x.l++[jE c (qc c v x.m x.p)]:=by show QG7 c _ x.l=_;unfold QG7;rw[if_neg h7]
   refine⟨?_,?_,?_⟩
   · rw[e,QTm,QTQ,←h1];rfl
   · rw[e,QRr,QCD]
     show jP c x.p=_
     unfold jP
     split
     · rw[h2,List.tail_drop]
     · exact h2
   · rw[e]
     intro k hk
     rw[List.length_append,List.length_singleton] at hk
     by_cases hl:k < x.l.length
     · rw[List.getElem_append_left hl,List.take_append_of_le_length (by omega)]
       exact h3 k hl
     · obtain rfl:k=x.l.length:=by omega
       rw[List.getElem_append_right (Nat.le_refl _),List.take_left]
       simp only[Nat.sub_self,List.getElem_cons_zero]
       rw[QCD,QH0,←h1]
       refine⟨h7,fun hk=>?_,fun hk=>?_⟩
       · unfold jE
         rw[if_neg (by omega)]
         show qc c v x.m x.p=_
         unfold qc
         rw[if_pos hk]
       · unfold jE
         rw[if_neg (by omega)]
         show qc c v x.m x.p=_
         unfold qc
         rw[if_neg (by omega),if_neg (by omega),if_pos hk]
theorem TellS.go {v:Int} {m0:List (Int×Int)} {p0:List Int}(g:Rg)(which:Int):∀ (k:Nat) {x:Sx},TellS v m0 p0 x→TellS v m0 p0 (goS g which v k x)
 | 0,x,h=>h
 | k+1,x,h=>by
   unfold goS
   split
   · exact h
   · exact TellS.go g which k (h.next _)
def CellsIn (w:World)(B:Nat)(A:Option Addr)(l:List (Int×Int)):Prop :=
 ∀ (j:Nat) (c:Int×Int),l[j]? = some c→∃ p,A=some p∧p.block < B∧w.cell? (p.add (j*2))=some (.int .u16 c.1)∧w.cell? ((p.add (j*2)).add 1)=some (.int .u8 c.2)
theorem CellsIn.nil (w:World)(B:Nat)(A:Option Addr):CellsIn w B A []:=fun j c h=>by simp at h
theorem CellsIn.keep {w w':World} {B:Nat} {A:Option Addr} {l:List (Int×Int)}(h:CellsIn w B A l)(k:∀ b,b < B→w'.heap[b]? = w.heap[b]?):CellsIn w' B A l:=fun j c hc=>by
 obtain⟨p,e,hb,h1,h2⟩:=h j c hc
 exact⟨p,e,hb,(World.cell?_of_block (by rw[add_block];exact k _ hb)).trans h1,(World.cell?_of_block (by rw[add_block,add_block];exact k _ hb)).trans h2⟩
theorem CellsIn.more {w:World} {B B':Nat} {A:Option Addr} {l:List (Int×Int)}(h:CellsIn w B A l)(k:B≤B'):CellsIn w B' A l:=fun j c hc=>by
 obtain⟨p,e,hb,h1,h2⟩:=h j c hc
 exact⟨p,e,Nat.lt_of_lt_of_le hb k,h1,h2⟩
theorem CellsIn.below {w w':World} {B:Nat} {A:Option Addr} {l:List (Int×Int)}(h:CellsIn w B A l)(k:Below B w w'):CellsIn w' B A l:=h.keep fun b hb=>k.block b hb
theorem CellsIn.at_ {w:World} {B:Nat} {A:Option Addr} {l:List (Int×Int)}(h:CellsIn w B A l){k:Nat}(hk:k < l.length):∃ p,A=some p∧p.block < B∧w.cell? (p.add (k*2))=some (.int .u16 l[k].1)∧w.cell? ((p.add (k*2)).add 1)=some (.int .u8 l[k].2):=h k _ (List.getElem?_eq_getElem hk)
def cvs:List (Int×Int)→List Value
 | []=>[]
 | c :: r=>.int .u16 c.1 :: .int .u8 c.2 :: cvs r
theorem jW:∀ l:List (Int×Int),(cvs l).length=l.length*2
 | []=>rfl
 | c :: r=>by simp only[cvs,List.length_cons,jW r];omega
theorem QBN:∀ l m:List (Int×Int),cvs l++cvs m=cvs (l++m)
 | [],_=>rfl
 | c :: r,m=>by simp only[cvs,List.cons_append,QBN r m]
theorem QCF:∀ (l:List (Int×Int)) (j:Nat),(cvs l)[j*2]? = l[j]?.map fun c=>.int .u16 c.1
 | [],j=>by simp[cvs]
 | c :: r,0=>rfl
 | c :: r,j+1=>by
   rw[show (j+1)*2=j*2+1+1 by omega]
   simp only[cvs,List.getElem?_cons_succ]
   exact QCF r j
theorem QDy:∀ (l:List (Int×Int)) (j:Nat),(cvs l)[j*2+1]? = l[j]?.map fun c=>.int .u8 c.2
 | [],j=>by simp[cvs]
 | c :: r,0=>rfl
 | c :: r,j+1=>by
   rw[show (j+1)*2+1=j*2+1+1+1 by omega]
   simp only[cvs,List.getElem?_cons_succ]
   exact QDy r j
theorem QD5:∀ l:List (Int×Int),∀ u∈cvs l,u.oneCell'=true
 | [],_,h=>by cases h
 | c :: r,u,h=>by
   simp only[cvs,List.mem_cons] at h
   rcases h with rfl|rfl|h
   · rfl
   · rfl
   · exact QD5 r u h
theorem CellsIn.values {w:World} {B:Nat} {p:Addr} {l:List (Int×Int)}(h:CellsIn w B (some p) l):∀ j u,(cvs l)[j]? = some u→w.cell? (p.add j)=some u:=fun j u hu=>by
 have hd:j=j / 2*2∨j=j / 2*2+1:=by omega
 rcases hd with e|e
 · rw[e,QCF] at hu
   obtain⟨c,hc,rfl⟩:=Option.map_eq_some_iff.1 hu
   obtain⟨q,eq,-,h1,-⟩:=h _ c hc
   cases eq
   rw[e];exact h1
 · rw[e,QDy] at hu
   obtain⟨c,hc,rfl⟩:=Option.map_eq_some_iff.1 hu
   obtain⟨q,eq,-,-,h2⟩:=h _ c hc
   cases eq
   rw[e,←QAh];exact h2
theorem CellsIn.of_values {w:World} {B:Nat} {p:Addr} {l:List (Int×Int)}(hb:p.block < B)(h:∀ j u,(cvs l)[j]? = some u→w.cell? (p.add j)=some u):CellsIn w B (some p) l:=fun j c hc =>
 ⟨p,rfl,hb,h _ _ (by rw[QCF,hc];rfl),by rw[QAh];exact h _ _ (by rw[QDy,hc];rfl)⟩
theorem QMj:(Tryz.prog.info? 55).map (fun i=>(i.zero,i.size,i.bytes))=some (some (.agg #[.int .u16 0,.int .u8 0]),2,4):=by kernel_rfl
theorem jV {W:World} {b n:Nat} {v:Value} {l:List (Int×Int)}(h:W.ownsRow b 55 2 v n (cvs l)):∃ A c,v=.slice A n c∧n≤c∧CellsIn W W.heap.size A l∧(A=none→c=0):=by
 rcases h.2 with ⟨e1,e2⟩|⟨g,c,cur,e1,-,hh,hle,-⟩
 · subst e1 e2
   have h1:=h.1
   rw[jW] at h1
   obtain rfl:l=[]:=List.eq_nil_of_length_eq_zero (by omega)
   exact⟨none,0,rfl,Nat.le_refl _,CellsIn.nil _ _ _,fun _=>rfl⟩
 · subst e1
   exact⟨_,c,rfl,hle,CellsIn.of_values (Array.getElem?_eq_some_iff.1 hh).1 (h.cells (g:=g) rfl),fun e=>by cases e⟩
theorem QCH {w:World} {b c:Nat} {e:TypeId} {s:Nat} {v:Value} {n:Nat} {xs:List Value}(h:w.ownsRow c e s v n xs)(hbc:b≤c):w.ownsRow b e s v n xs:=by
 obtain⟨h1,h2⟩:=h
 refine⟨h1,?_⟩
 rcases h2 with h2|⟨g,cap,cur,e,hb,rest⟩
 · exact .inl h2
 · exact .inr ⟨g,cap,cur,e,Nat.le_trans hbc hb,rest⟩
theorem QBA {ops:Array Oper} {rest:List Oper} {o:Oper} {a:Act} {w:World} {Q:Exit→Act→World→Prop}(hgd:o.guard=none)(s x:Operand)
 (ho:o.op=.call { callee:=.builtin .append,args:=#[s,x],argTypes:=#[25,25] })
 (base B:Nat)(hbase:base≤w.heap.size)
 (v:Value)(n:Nat)(l:List (Int×Int))(hs:a.eval s=v)(hown:w.ownsRow base 55 2 v n (cvs l))
 (A:Option Addr)(c:Nat)(ys:List (Int×Int))(hx:a.eval x=.slice A ys.length c)(hy:CellsIn w B A ys)(hn:A=none→c=0)(hmax:n+ys.length≤35184372088832)
 (h:∀ v' w',w'.ownsRow base 55 2 v' (n+ys.length) (cvs (l++ys))→w.grownBy w' v.ownBlock→wpList Tryz.prog ops Q rest (a.put o.dst v') w') :
 wpList Tryz.prog ops Q (o :: rest) a w:=by
 obtain⟨i0,hi0,hz0,hz1,hz2⟩:=info_parts QMj
 rcases A with _|p
 · obtain rfl:=hn rfl
   have hy0:ys=[]:=by
    cases ys with
    | nil=>rfl
    | cons y ys' =>
      obtain⟨ad,e,-⟩:=hy 0 y rfl
      cases e
   subst hy0
   refine wpList_append_own_none hgd s x _ ho base 55 i0 2 Tryz.underlying25 hi0 v n (cvs l) hs hown hx ?_
   exact h v w (by simpa using hown) ⟨rfl,rfl,rfl,Nat.le_refl _,fun _ _ _=>rfl⟩
 · refine wpList_append_own_at _ hgd s x _ ho base 55 i0 _ 2 4 Tryz.underlying25 hi0 hz0 hz1 hz2 rfl (by omega) v n (cvs l) hs hown p ys.length c (cvs ys) hx (jW ys) hy.values (QD5 ys) (by simp only[maxLen];omega) (by omega) hbase ?_
   intro v' w' own' hg _ _
   rw[QBN] at own'
   exact h v' w' own' hg
section
variable {ops:Array Oper} {Q:Exit→Act→World→Prop} {base:List Value} {rest:List Oper} {l:JY} {w:World} {o:Oper}
theorem qAc (s x:Operand)(bs B:Nat)(v:Value)(n:Nat)(got:List (Int×Int))(A:Option Addr)(c:Nat)(ys:List (Int×Int))(hbs:bs≤w.heap.size)
 (hown:w.ownsRow bs 55 2 v n (cvs got))(hy:CellsIn w B A ys)(hn:A=none→c=0)(hmax:n+ys.length≤35184372088832)
 (h:∀ v' w',w'.ownsRow bs 55 2 v' (n+ys.length) (cvs (got++ys))→w.grownBy w' v.ownBlock→WO Tryz.prog ops Q base rest (Qz o.dst v' l) w')
 (ho:o.op=.call { callee:=.builtin .append,args:=#[s,x],argTypes:=#[25,25] }:=by exact rfl)(hg:o.guard=none:=by exact rfl)(hs:evO base l s=v:=by kernel_rfl)(hx:evO base l x=.slice A ys.length c:=by kernel_rfl)(hd:Q2 o.dst base.length=true:=by kernel_rfl):WO Tryz.prog ops Q base (o :: rest) l w :=
 ⟨fun hi=>⟨QBA hg s x ho bs B hbs v n got (by rw[Jj hi];exact hs) hown A c ys (by rw[Jj hi];exact hx) hy hn hmax fun v' w' h1 h2=>by rw[J3];exact ((h v' w' h1 h2).h (XI hd hi)).h⟩⟩
theorem QKH (p:Addr)(n c k:Nat)(h:k < n)(w:World):(Instr.indexAt 25 (.slice (some p) n c) (.int .i64 (k:Int))).run Tryz.prog w=.ok (.pointer (some (p.add (k*2)))) w:=by
 have h1:(k:Int) < n:=by omega
 simp[go_sem,h]
theorem QQt (p:Addr)(w:World):(Instr.fieldAt 55 (.pointer (some p)) 0).run Tryz.prog w=.ok (.pointer (some (p.add 0))) w:=by simp[go_sem]
theorem QWN (p:Addr)(w:World):(Instr.fieldAt 55 (.pointer (some p)) 1).run Tryz.prog w=.ok (.pointer (some (p.add 1))) w:=by simp[go_sem]
theorem QLC {w:World} {p:Addr} {a b:Int}(h1:w.cell? p=some (.int .u16 a))(h2:w.cell? (p.add 1)=some (.int .u8 b)):(Instr.loadAt 55 (.pointer (some p))).run Tryz.prog w=.ok (.agg #[.int .u16 a,.int .u8 b]) w:=by
 have h3:w.cell? { block:=p.block,off:=p.off+1 }=some (.int .u8 b):=by simpa [Addr.add] using h2
 simp[go_sem,h1,h3]
end
theorem CellsIn.ld0 {w:World} {B:Nat} {p:Addr} {l:List (Int×Int)}(h:CellsIn w B (some p) l){k:Nat}(hk:k < l.length):(Instr.loadAt 22 (.pointer (some ((p.add (k*2)).add 0)))).run Tryz.prog w=.ok (.int .u16 l[k].1) w:=by
 obtain⟨q,e,-,h1,-⟩:=h.at_ hk
 cases e
 rw[add_zero']
 exact ldA h1
theorem CellsIn.ld1 {w:World} {B:Nat} {p:Addr} {l:List (Int×Int)}(h:CellsIn w B (some p) l){k:Nat}(hk:k < l.length):(Instr.loadAt 5 (.pointer (some ((p.add (k*2)).add 1)))).run Tryz.prog w=.ok (.int .u8 l[k].2) w:=by
 obtain⟨q,e,-,-,h2⟩:=h.at_ hk
 cases e
 exact ldD h2
theorem CellsIn.ldW {w:World} {B:Nat} {p:Addr} {l:List (Int×Int)}(h:CellsIn w B (some p) l){k:Nat}(hk:k < l.length):(Instr.loadAt 55 (.pointer (some (p.add (k*2))))).run Tryz.prog w=.ok (.agg #[.int .u16 l[k].1,.int .u8 l[k].2]) w:=by
 obtain⟨q,e,-,h1,h2⟩:=h.at_ hk
 cases e
 exact QLC h1 h2
def MapAt (w:World)(b n:Nat)(m:List (Int×Int)):Prop:=w.ownsMap Tryz.prog 22 (plainElem (H:=Unit) Tryz.prog 5) b n (dm m)
theorem QD4:Maps.Keyed Tryz.prog 22:=Maps.int_keyed Tryz.underlying22
theorem wf16 {a:Int}(h:0≤a∧a≤65535):(Lit.int .u16 a).wf=true:=by simp[Lit.wf,IntKind.min,IntKind.max,IntKind.bits,IntKind.signed];omega
theorem wf8 {a:Int}(h:0≤a∧a≤255):(Lit.int .u8 a).wf=true:=by simp[Lit.wf,IntKind.min,IntKind.max,IntKind.bits,IntKind.signed];omega
theorem QSO {a:Int}(h:(Lit.int .u16 a).wf=true):0≤a∧a≤65535:=by simp[Lit.wf,IntKind.min,IntKind.max,IntKind.bits,IntKind.signed] at h;omega
theorem QVv {a:Int}(h:(Lit.int .u8 a).wf=true):0≤a∧a≤255:=by simp[Lit.wf,IntKind.min,IntKind.max,IntKind.bits,IntKind.signed] at h;omega
theorem QUK {a:Int}(h:0≤a∧a≤65535):keyOf Tryz.prog 22 (.int .u16 a)=some (.int .u16 a):=Maps.keyOf_int_mk Tryz.underlying22 (wf16 h)
theorem QVg:Tryz.prog.underlying 160=some (.map 22 5):=Tryz.underlying160
theorem MapAt.made (w:World):MapAt (w.alloc (.map #[] 0)) w.heap.size 0 []:=World.ownsMap_made w _ _ _
theorem MapAt.lt {w:World} {b n:Nat} {m:List (Int×Int)}(h:MapAt w b n m):b < w.heap.size:=World.ownsMap.lt h
theorem MapAt.grown {w w':World} {b n:Nat} {m:List (Int×Int)} {row:Option Nat}(h:MapAt w b n m)(k:w.grownBy w' row)(hb:some b≠row):MapAt w' b n m:=World.ownsMap.kept h k hb
theorem MapAt.below {w w':World} {b n:Nat} {m:List (Int×Int)}(h:MapAt w b n m)(k:Below w.heap.size w w'):MapAt w' b n m :=
 h.grown (row:=none) ⟨k.os,k.tape,k.output,k.size,fun i hi _=>k.block i hi⟩ (by simp)
theorem MapAt.size {w:World} {b n:Nat} {m:List (Int×Int)}(h:MapAt w b n m):m.length≤n:=by
 have:=World.ownsMap.size_le h
 rwa [QMH] at this
theorem MapAt.store {w:World} {b n:Nat} {m:List (Int×Int)}(h:MapAt w b n m)(hn:n < maxLen){a v:Int}(ha:0≤a∧a≤65535)(hv:0≤v∧v≤255) :
 ∃ w',(Instr.mapUpdate 160 (.map (some b)) (.int .u16 a) (.int .u8 v)).run Tryz.prog w=.ok () w'∧MapAt w' b (n+1) (QJa a v m)∧w.grownBy w' (some b):=by
 obtain⟨w',h1,h2,h3⟩:=World.ownsMap.update h QD4 QVg hn (QUK ha) (plainElem_int Tryz.underlying5 (wf8 hv))
 rw[QVY] at h2
 exact⟨w',h1,h2,h3⟩
theorem MapAt.drop {w:World} {b n:Nat} {m:List (Int×Int)}(h:MapAt w b n m){a:Int}(ha:0≤a∧a≤65535)(ty:TypeId) :
 ∃ w',(Builtin.delete_ #[160,22] ty #[.map (some b),.int .u16 a]).run Tryz.prog w=.ok (.tuple #[]) w'∧MapAt w' b n (QE4 a m)∧w.grownBy w' (some b):=by
 obtain⟨w',h1,h2,h3⟩:=World.ownsMap.drop h QD4 QVg (QUK ha) ty
 rw[QV6] at h2
 exact⟨w',h1,h2,h3.grown⟩
def RangeAt (w:World)(b r n:Nat)(m:List (Int×Int))(left:Int→Bool)(cnt:Nat):Prop:=∃ lf,(∀ x,lf (.int .u16 x)=left x)∧w.ranges Tryz.prog 22 (plainElem (H:=Unit) Tryz.prog 5) b r n (dm m) lf cnt
theorem RangeAt.lt {w:World} {b r n:Nat} {m:List (Int×Int)} {left:Int→Bool} {cnt:Nat}(h:RangeAt w b r n m left cnt):r < w.heap.size:=by obtain⟨lf,-,h⟩:=h;exact h.lt
theorem RangeAt.map {w:World} {b r n:Nat} {m:List (Int×Int)} {left:Int→Bool} {cnt:Nat}(h:RangeAt w b r n m left cnt):MapAt w b n m:=by obtain⟨lf,-,h⟩:=h;exact h.owns
theorem RangeAt.grown {w w':World} {b r n:Nat} {m:List (Int×Int)} {left:Int→Bool} {cnt:Nat} {row:Option Nat}(h:RangeAt w b r n m left cnt)(k:w.grownBy w' row)(hb:some b≠row)(hr:some r≠row):RangeAt w' b r n m left cnt:=by
 obtain⟨lf,h1,h2⟩:=h
 exact⟨lf,h1,h2.kept k hb hr⟩
theorem RangeAt.below {w w':World} {b r n:Nat} {m:List (Int×Int)} {left:Int→Bool} {cnt:Nat}(h:RangeAt w b r n m left cnt)(k:Below w.heap.size w w'):RangeAt w' b r n m left cnt :=
 h.grown (row:=none) ⟨k.os,k.tape,k.output,k.size,fun i hi _=>k.block i hi⟩ (by simp) (by simp)
theorem MapAt.range {w:World} {b n:Nat} {m:List (Int×Int)}(h:MapAt w b n m) :
 ∃ w',(Instr.range 160 (.map (some b))).run Tryz.prog w=.ok (.pointer (some ⟨w.heap.size,0,none⟩)) w'∧RangeAt w' b w.heap.size n m (fun x=>m.any fun p=>decide (p.1=x)) m.length∧Below w.heap.size w w':=by
 obtain⟨w',h1,h2,h3,h4⟩:=World.ownsMap.range h QD4 QVg
 rw[QMH] at h2
 exact⟨w',h1,⟨_,fun x=>QVz m x,h2⟩,⟨h3.os,h3.tape,h3.output,h3.size,fun i hi=>h3.block i hi (by simp)⟩⟩
theorem RangeAt.next {w:World} {b r n:Nat} {m:List (Int×Int)} {left:Int→Bool} {cnt:Nat}(h:RangeAt w b r n m left cnt)(ty:TypeId) :
 ((∀ x,left x=false)∧(Instr.next (.pointer (some ⟨r,0,none⟩)) false ty).run Tryz.prog w=.ok (.tuple #[.bool false]) w) ∨
 ∃ x c w' cnt',(0≤x∧x≤65535)∧(0≤c∧c≤255)∧left x=true∧(x,c)∈m∧(Instr.next (.pointer (some ⟨r,0,none⟩)) false ty).run Tryz.prog w=.ok (.tuple #[.bool true,.int .u16 x,.int .u8 c]) w' ∧
  RangeAt w' b r n m (fun z=>left z&&!decide (z=x)) cnt'∧cnt' < cnt∧w.grownBy w' (some r)∧(Instr.entry (.pointer (some ⟨r,0,none⟩))).run Tryz.prog w'=.ok (.tuple #[.int .u16 x,.int .u8 c]) w':=by
 obtain⟨lf,hlf,h⟩:=h
 rcases h.next QD4 ty with ⟨-,h2,h3⟩|⟨key,v,kl,y,w',cnt',hkey,hlk,hv,hat,hrun,hrg,hlt,hgr,hsz,hen⟩
 · exact .inl ⟨fun x=>by rw[←hlf];exact h2 _,h3⟩
 · obtain⟨x,rfl,rfl,hwx⟩:=Maps.keyOf_int_inv Tryz.underlying22 hkey
   obtain⟨c,rfl,rfl,hwc⟩:=plainElem_int_inv Tryz.underlying5 hv
   exact .inr ⟨x,c,w',cnt',QSO hwx,QVv hwc,by rw[←hlf];exact hlk,QVJ hat,hrun,⟨_,fun z=>by show (lf _&&!(Lit.int .u16 z).sameKey (.int .u16 x))=(left z&&!decide (z=x));rw[hlf,QHC],hrg⟩,hlt,hgr,hen⟩
theorem QJ1 (w:World)(b n:Nat)(m:List (Int×Int))(a v:Int)(ha:0≤a∧a≤65535)(hv:0≤v∧v≤255)(hM:MapAt w b n m)(hn:n < maxLen) :
 Calls Tryz.prog 142 #[.map (some b),.int .u16 a,.int .u8 v] w fun e w'=>e=.returned (.tuple #[])∧(MapAt w' b (n+1) (Zg m (a,v))∧w.grownBy w' (some b)):=by
 go_enter Tryz.func142,Tryz.ntmps142
 refine JA<|coS<|qQ [] (Many.begin w) fun w1 k1=>coI (v==0) (fun h=>coR<|qR 2 [] k1 fun w2 k2=>?_) fun h=>JC<|eoT<|coZ<|qR 3 [] k1 fun w2 k2=>?_
 · have h0:v=0:=by simpa using h
   obtain⟨w3,r1,r2,r3⟩:=(hM.below k2.touch.below).drop ha 0
   refine wM (QRg r1)<|wT<|JE<|Je<|QE5 ⟨rfl,?_,(QAK k2.touch.below _).trans r3⟩
   unfold Zg
   rw[if_pos h0]
   exact World.ownsMap.mono r2 (Nat.le_succ _)
 · have h0:v≠0:=by simpa using h
   obtain⟨w3,r1,r2,r3⟩:=(hM.below k2.touch.below).store hn ha hv
   refine wD (QTD r1)<|woE<|eoV ⟨rfl,?_,(QAK k2.touch.below _).trans r3⟩
   unfold Zg
   rw[if_neg h0]
   exact r2
def QW5 (A:Option Addr)(n cap b:Nat)(x:QFN):List Value:=[.slice A n cap,x.y 1,x.y 2,.map (some b),x.y 4,x.y 5,x.y 6,.slice A n cap,.int .i64 (n:Int),.int .i64 (x.k:Int),x.y 10,x.y 11,x.y 12,x.y 13,x.y 14,x.y 15,x.y 16,x.y 17,x.y 18,x.y 19,x.y 20]
def QW6 (w:World)(b:Nat)(l:List (Int×Int))(x:QFN)(W:World):Prop:=Below w.heap.size w W∧MapAt W b x.k (mkS (l.take x.k))∧x.k≤l.length
theorem QGr (A:Option Addr)(cap:Nat)(l:List (Int×Int))(hl:l.length≤1000000000)(h16:Jk l)(w:World)(hin:CellsIn w w.heap.size A l) :
 Calls Tryz.prog 128 #[.slice A l.length cap] w fun e w'=>∃ b,w.heap.size≤b∧e=.returned (.map (some b))∧MapAt w' b l.length (mkS l)∧Below w.heap.size w w':=by
 go_enter Tryz.func128,Tryz.ntmps128
 refine JA<|qQ [] (Many.begin w) fun w1 k1=>coR<|wM (QHu (run_makeMap _ w1))<|qE [] (Many.begin _) fun w2 k2=>coS<|qQ [] (Many.begin w2) fun w3 k3=>coB<|?_
 obtain⟨b,hb⟩:∃ b,b=w1.heap.size:=⟨_,rfl⟩
 have hwb:w.heap.size≤b:=by rw[hb];exact k1.touch.size
 have hB1:Below w.heap.size w (w1.alloc (.map #[] 0)):=k1.touch.below.trans ((Below.alloc (Below.refl _ _) (Nat.le_refl _) _).mono k1.touch.size)
 have hB3:=bOn (bOn hB1 k2) k3
 have hM3:MapAt w3 b 0 []:=by rw[hb];exact ((MapAt.made w1).below k2.touch.below).below k3.touch.below
 refine jA (QW5 A l.length cap b) (QW6 w b l) (fun x=>l.length-x.k) (fun y=>⟨0,y⟩) ⟨hB3,hM3,Nat.zero_le _⟩ ?_ (by rw[hb];kernel_rfl)
 clear hM3 hB3 hB1 k3 k2 k1 hb
 rintro ⟨k,y⟩ W ⟨hB,hM,hk⟩
 have hk:k≤l.length:=hk
 have hM:MapAt W b k (mkS (l.take k)):=hM
 refine qQ [] (Many.begin W) fun wa ka=>coS<|coI (decide ((k:Int) < (l.length:Int))) (fun hlt=>JC<|eoT<|coS<|coB<|?_) fun hge=>coX<|jv<|jv<|QE9<|eoT ?_
 · have hlt:k < l.length:=by have:(k:Int) < (l.length:Int):=by simpa using hlt
                             omega
   obtain⟨p,rfl,hp,h1,h2⟩:=(hin.below (bOn hB ka)).at_ hlt
   have hc:=h16 _ (List.getElem_mem hlt)
   refine coR<|wM (Jm (QKH p l.length cap k hlt _))<|wM (Jc (QLC h1 h2))<|qE [0] ka fun wb kb=>coZ<|qR 5 [0,0] kb fun wc kc=>?_
   refine kO (QJ1 _ b k _ l[k].1 l[k].2 ⟨hc.1,hc.2.1⟩ ⟨hc.2.2.1,hc.2.2.2⟩ (hM.below kc.touch.below) (by simp only[maxLen];omega)) fun wd ⟨hMd,hgd⟩=>woE<|eoB<|eoT<|coZ<|wM (QBc k (by omega))<|qF [] (Many.begin wd) fun we ke=>Qf (fun y=>⟨k+1,y⟩) ⟨bOn (jM (bOn hB kc) hgd hwb (bOn hB kc).size) ke,?_,hlt⟩ (by show l.length-(k+1) < l.length-k;omega)
   show MapAt we b (k+1) (mkS (l.take (k+1)))
   rw[QCy l k hlt,QH5]
   exact hMd.below ke.touch.below
 · have hkl:k=l.length:=by have:¬((k:Int) < (l.length:Int)):=by simpa using hge
                           omega
   subst hkl
   refine qQ [] (Many.begin wa) fun wz kz=>JE<|JR (.map (some b)) ⟨b,hwb,rfl,?_,bOn (bOn hB ka) kz⟩
   rw[List.take_length] at hM
   exact (hM.below ka.touch.below).below kz.touch.below
def QWi (A:Option Addr)(n cap:Nat)(at_:Int)(x:QPT):List Value:=[.slice A n cap,.int .u16 at_,x.y 2,x.y 3,x.y 4,.int .u8 x.v,x.y 6,x.y 7,.slice A n cap,.int .i64 (n:Int),.int .i64 (x.k:Int),x.y 11,x.y 12,x.y 13,x.y 14,x.y 15,x.y 16,x.y 17,x.y 18,x.y 19,x.y 20,x.y 21]
def QT4 (w:World)(l:List (Int×Int))(at_:Int)(x:QPT)(W:World):Prop:=Below w.heap.size w W∧x.v=QP (l.take x.k) at_∧x.k≤l.length
theorem QAj (l:List (Int×Int))(at_:Int)(k:Nat)(h:k < l.length):QP (l.take (k+1)) at_=if l[k].1=at_ then l[k].2 else QP (l.take k) at_:=by rw[QCy l k h,Zp]
theorem QPW (A:Option Addr)(cap:Nat)(l:List (Int×Int))(at_:Int)(hl:l.length≤1000000000)(w:World)(hin:CellsIn w w.heap.size A l) :
 Calls Tryz.prog 139 #[.slice A l.length cap,.int .u16 at_] w fun e w'=>e=.returned (.int .u8 (QP l at_))∧Below w.heap.size w w':=by
 go_enter Tryz.func139,Tryz.ntmps139
 refine JA<|qQ [] (Many.begin w) fun w1 k1=>qQ [] k1 fun w2 k2=>coS<|qQ [] k2 fun w3 k3=>coB<|jA (QWi A l.length cap at_) (QT4 w l at_) (fun x=>l.length-x.k) (fun y=>⟨0,0,y⟩) ⟨k3.touch.below,rfl,Nat.zero_le _⟩ ?_
 rintro ⟨k,v,y⟩ W ⟨hB,hv,hk⟩
 have hk:k≤l.length:=hk
 have hv:v=QP (l.take k) at_:=hv
 refine qQ [] (Many.begin W) fun wa ka=>coS<|coI (decide ((k:Int) < (l.length:Int))) (fun hlt=>JC<|eoT<|coS<|coB<|?_) fun hge=>coX<|jv<|jv<|QE9<|eoT ?_
 · have hlt:k < l.length:=by have:(k:Int) < (l.length:Int):=by simpa using hlt
                             omega
   obtain⟨p,rfl,hp,h1,h2⟩:=(hin.below (bOn hB ka)).at_ hlt
   refine coR<|wM (Jm (QKH p l.length cap k hlt _))<|wM (Jc (QLC h1 h2))<|qE [0] ka fun wb kb=>qQ [0] kb fun wc kc=>coI (l[k].1==at_) (fun h=>coZ<|qF [0] kc fun wd kd=>eoB<|eoT<|coZ<|wM (QBc k (by omega))<|qF [] kd fun we ke=>Qf (fun y=>⟨k+1,l[k].2,y⟩) ⟨bOn hB ke,?_,hlt⟩ (by show l.length-(k+1) < l.length-k;omega)) fun h=>JC<|eoB<|eoT<|coZ<|wM (QBc k (by omega))<|qF [] kc fun we ke=>Qf (fun y=>⟨k+1,v,y⟩) ⟨bOn hB ke,?_,hlt⟩ (by show l.length-(k+1) < l.length-k;omega)
   · show l[k].2=QP (l.take (k+1)) at_
     rw[QAj l at_ k hlt,if_pos (by simpa using h)]
   · show v=QP (l.take (k+1)) at_
     rw[QAj l at_ k hlt,if_neg (by simpa using h)]
     exact hv
 · have hkl:k=l.length:=by have:¬((k:Int) < (l.length:Int)):=by simpa using hge
                           omega
   subst hkl
   rw[List.take_length] at hv
   subst hv
   exact qQ [] ka fun wz kz=>JE<|JR (.int .u8 (QP l at_)) ⟨rfl,bOn hB kz⟩
def QVV (A:Option Addr)(n cap:Nat)(at_:Int)(x:QPT):List Value:=[.slice A n cap,.int .u16 at_,x.y 2,x.y 3,x.y 4,.int .u8 x.v,.int .i64 (x.k:Int),x.y 7,x.y 8,x.y 9,x.y 10,x.y 11,x.y 12,x.y 13,x.y 14,x.y 15,x.y 16,x.y 17,x.y 18,x.y 19,x.y 20,x.y 21,x.y 22,x.y 23,x.y 24,x.y 25]
theorem QCw (A:Option Addr)(cap:Nat)(l:List (Int×Int))(at_:Int)(hl:l.length≤1000000000)(w:World)(hin:CellsIn w w.heap.size A l) :
 Calls Tryz.prog 35 #[.slice A l.length cap,.int .u16 at_] w fun e w'=>e=.returned (.int .u8 (QP l at_))∧Below w.heap.size w w':=by
 go_enter Tryz.func35,Tryz.ntmps35
 refine JA<|qQ [] (Many.begin w) fun w1 k1=>qQ [] k1 fun w2 k2=>coS<|qQ [] k2 fun w3 k3=>coB<|jA (QVV A l.length cap at_) (QT4 w l at_) (fun x=>l.length-x.k) (fun y=>⟨0,0,y⟩) ⟨k3.touch.below,rfl,Nat.zero_le _⟩ ?_
 rintro ⟨k,v,y⟩ W ⟨hB,hv,hk⟩
 have hk:k≤l.length:=hk
 have hv:v=QP (l.take k) at_:=hv
 refine coS<|qQ [] (Many.begin W) fun wa ka=>coI (decide ((k:Int) < (l.length:Int))) (fun hlt=>JC<|eoT<|coS<|coB<|?_) fun hge=>coX<|jv<|jv<|QE9<|eoT ?_
 · have hlt:k < l.length:=by have:(k:Int) < (l.length:Int):=by simpa using hlt
                             omega
   obtain⟨p,rfl,-⟩:=hin.at_ hlt
   refine coR<|qR 2 [] ka fun wb kb=>wM (Jm (QKH p l.length cap k hlt _))<|wM (QHf (QQt (p.add (k*2)) _))<|wM (Jc ((hin.below (bOn hB kb)).ld0 hlt))<|qE [] kb fun wc kc=>coI (l[k].1==at_) (fun h=>coZ<|qR 2 [] kc fun wd kd=>wM (Jm (QKH p l.length cap k hlt _))<|wM (QHf (QWN (p.add (k*2)) _))<|wM (Jc ((hin.below (bOn hB kd)).ld1 hlt))<|qF [] kd fun we ke=>eoB<|eoT<|coZ<|qR 1 [] ke fun wf kf=>wM (QBc k (by omega))<|qF [] kf fun wg kg=>Qf (fun y=>⟨k+1,l[k].2,y⟩) ⟨bOn hB kg,?_,hlt⟩ (by show l.length-(k+1) < l.length-k;omega)) fun h=>JC<|eoB<|eoT<|coZ<|qR 1 [] kc fun we ke=>wM (QBc k (by omega))<|qF [] ke fun wf kf=>Qf (fun y=>⟨k+1,v,y⟩) ⟨bOn hB kf,?_,hlt⟩ (by show l.length-(k+1) < l.length-k;omega)
   · show l[k].2=QP (l.take (k+1)) at_
     rw[QAj l at_ k hlt,if_pos (by simpa using h)]
   · show v=QP (l.take (k+1)) at_
     rw[QAj l at_ k hlt,if_neg (by simpa using h)]
     exact hv
 · have hkl:k=l.length:=by have:¬((k:Int) < (l.length:Int)):=by simpa using hge
                           omega
   subst hkl
   rw[List.take_length] at hv
   subst hv
   exact qQ [] ka fun wz kz=>JE<|JR (.int .u8 (QP l at_)) ⟨rfl,bOn hB kz⟩
theorem cv16 (a:Int)(h:0≤a∧a≤65535)(w:World):(convert 22 3 (.int .u16 a)).run Tryz.prog w=.ok (.int .i64 a) w:=by
 have e:IntKind.i64.wrap a=a:=by rw[IntKind.wrap_i64];omega
 simp[go_sem,e]
theorem QVy (op:BinOp)(x y:Operand)(a b:Int)(w:World):(eqGuard op 3 x y (.int .i64 a) (.int .i64 b)).run Tryz.prog w=.ok () w:=by simp[go_sem]
end Go.Proofs.YtmgcgiecimnncaaGreatDoor
