/- Contracts and facts that the claim's proof wants (several texts in one). -/
import Derived.Maps.RangeWalk
import Derived.Test.YtbhaojlikgdgjaaGreatDoorTgG17
namespace Go.Proofs.YtbhaojlikgdgjaaGreatDoor
open Go.RowKit
set_option linter.unusedVariables false
set_option linter.unusedSimpArgs false
set_option maxRecDepth 20000
set_option maxHeartbeats 20000000
def QJ (l:List (Int×Int))(a:Int):Int:=l.foldl (fun b c=>if c.1=a then c.2 else b) 0
def QCm (x:Int×Int):List (Int×Int)→List (Int×Int)
 | []=>[x]
 | y :: r=>if x.1 < y.1 then x :: y :: r else y :: QCm x r
def QDn (a:Int)(m:List (Int×Int)):List (Int×Int):=m.filter fun p=>!decide (p.1=a)
def QIP (a b:Int)(m:List (Int×Int)):List (Int×Int):=QCm (a,b) (QDn a m)
def ZH (m:List (Int×Int))(c:Int×Int):List (Int×Int):=if c.2=0 then QDn c.1 m else QIP c.1 c.2 m
def mkS (l:List (Int×Int)):List (Int×Int):=l.foldl ZH []
def Srt (m:List (Int×Int)):Prop:=m.Pairwise fun x y=>x.1 < y.1
def Jg (l:List (Int×Int)):Prop:=∀ c∈l,0≤c.1∧c.1≤65535∧0≤c.2∧c.2≤255
def QCE (m:List (Int×Int)):Prop:=∀ c∈m,c.2≠0
theorem QD1 {x p:Int×Int}:∀ {m:List (Int×Int)},p∈QCm x m↔p=x∨p∈m
 | []=>by simp[QCm]
 | y :: r=>by
   unfold QCm
   split
   · simp
   · simp only[List.mem_cons,QD1 (m:=r)]
     constructor
     · rintro (h|h|h)
       · exact .inr (.inl h)
       · exact .inl h
       · exact .inr (.inr h)
     · rintro (h|h|h)
       · exact .inr (.inl h)
       · exact .inl h
       · exact .inr (.inr h)
theorem jz {a:Int} {m:List (Int×Int)} {p:Int×Int}:p∈QDn a m↔p∈m∧p.1≠a:=by
 unfold QDn
 rw[List.mem_filter]
 simp
theorem QBI {a b:Int} {m:List (Int×Int)} {p:Int×Int}:p∈QIP a b m↔p=(a,b)∨(p∈m∧p.1≠a):=by
 unfold QIP
 rw[QD1,jz]
theorem QHT {x:Int×Int}:∀ {m:List (Int×Int)},Srt m→(∀ p∈m,p.1≠x.1)→Srt (QCm x m)
 | [],_,_=>by simp[QCm,Srt]
 | y :: r,h,hn=>by
   obtain⟨h1,h2⟩:=List.pairwise_cons.1 h
   unfold QCm
   split
   · rename_i hb
     refine List.pairwise_cons.2 ⟨fun q hq=>?_,h⟩
     rcases List.mem_cons.1 hq with rfl|hq
     · exact hb
     · exact Int.lt_trans hb (h1 q hq)
   · rename_i hb
     have hyx:y.1 < x.1:=by have:=hn y (by simp);omega
     refine List.pairwise_cons.2 ⟨fun q hq=>?_,QHT h2 fun p hp=>hn p (by simp[hp])⟩
     rcases QD1.1 hq with rfl|hq
     · exact hyx
     · exact h1 q hq
theorem QIY {a:Int} {m:List (Int×Int)}(h:Srt m):Srt (QDn a m):=h.filter _
theorem QNK {a b:Int} {m:List (Int×Int)}(h:Srt m):Srt (QIP a b m):=QHT (QIY h) fun p hp=>(jz.1 hp).2
theorem QMB {m:List (Int×Int)}(h:Srt m)(c:Int×Int):Srt (ZH m c):=by
 unfold ZH
 split
 · exact QIY h
 · exact QNK h
theorem QE8:∀ (l:List (Int×Int)) {m:List (Int×Int)},Srt m→Srt (l.foldl ZH m)
 | [],_,h=>h
 | c :: r,_,h=>QE8 r (QMB h c)
theorem zu (l:List (Int×Int)):Srt (mkS l):=QE8 l List.Pairwise.nil
theorem QPb {m:List (Int×Int)}(h:QCE m)(c:Int×Int):QCE (ZH m c):=by
 unfold ZH
 split
 · exact fun p hp=>h p (jz.1 hp).1
 · rename_i hc
   intro p hp
   rcases QBI.1 hp with rfl|hp
   · exact hc
   · exact h p hp.1
theorem QII:∀ (l:List (Int×Int)) {m:List (Int×Int)},QCE m→QCE (l.foldl ZH m)
 | [],_,h=>h
 | c :: r,_,h=>QII r (QPb h c)
theorem QPh (l:List (Int×Int)):QCE (mkS l):=QII l fun _ h=>by cases h
theorem QOp {m:List (Int×Int)}(h:Jg m){c:Int×Int}(hc:0≤c.1∧c.1≤65535∧0≤c.2∧c.2≤255):Jg (ZH m c):=by
 unfold ZH
 split
 · exact fun p hp=>h p (jz.1 hp).1
 · intro p hp
   rcases QBI.1 hp with rfl|hp
   · exact hc
   · exact h p hp.1
theorem QEv:∀ (l:List (Int×Int)) {m:List (Int×Int)},Jg l→Jg m→Jg (l.foldl ZH m)
 | [],_,_,h=>h
 | c :: r,_,hl,h=>QEv r (fun p hp=>hl p (by simp[hp])) (QOp h (hl c (by simp)))
theorem QBa {l:List (Int×Int)}(h:Jg l):Jg (mkS l):=QEv l h fun _ h=>by cases h
theorem QG0 (a:Int)(m:List (Int×Int)):(QDn a m).length≤m.length:=List.length_filter_le _ _
theorem QHI (x:Int×Int):∀ m:List (Int×Int),(QCm x m).length=m.length+1
 | []=>rfl
 | y :: r=>by
   unfold QCm
   split
   · rfl
   · simp[QHI x r]
theorem QLG (m:List (Int×Int))(c:Int×Int):(ZH m c).length≤m.length+1:=by
 unfold ZH
 split
 · have:=QG0 c.1 m;omega
 · unfold QIP
   rw[QHI]
   have:=QG0 c.1 m
   omega
theorem QFa:∀ (l m:List (Int×Int)),(l.foldl ZH m).length≤m.length+l.length
 | [],m=>by simp
 | c :: r,m=>by
   have h1:=QFa r (ZH m c)
   have h2:=QLG m c
   simp only[List.foldl_cons,List.length_cons]
   omega
theorem QGL (l:List (Int×Int)):(mkS l).length≤l.length:=by have:=QFa l [];unfold mkS;simpa using this
theorem QBs:∀ {l m:List (Int×Int)},Srt l→Srt m→(∀ p,p∈l↔p∈m)→l=m
 | [],[],_,_,_=>rfl
 | [],b :: s,_,_,h=>by have:=(h b).2 (by simp);simp at this
 | a :: r,[],_,_,h=>by have:=(h a).1 (by simp);simp at this
 | a :: r,b :: s,h1,h2,h=>by
   obtain⟨a1,a2⟩:=List.pairwise_cons.1 h1
   obtain⟨b1,b2⟩:=List.pairwise_cons.1 h2
   have hab:a=b:=by
    rcases List.mem_cons.1 ((h a).1 (by simp)) with e|ha
    · exact e
    · rcases List.mem_cons.1 ((h b).2 (by simp)) with e|hb
      · exact e.symm
      · have:=a1 b hb;have:=b1 a ha;omega
   subst hab
   rw[QBs a2 b2 fun p=>⟨fun hp=>by
    rcases List.mem_cons.1 ((h p).1 (by simp[hp])) with e|hp'
    · have:=a1 p hp;rw[e] at this;omega
    · exact hp',fun hp=>by
    rcases List.mem_cons.1 ((h p).2 (by simp[hp])) with e|hp'
    · have:=b1 p hp;rw[e] at this;omega
    · exact hp'⟩]
theorem QKy {m:List (Int×Int)}(h:Srt m):∀ {p q:Int×Int},p∈m→q∈m→p.1=q.1→p=q:=by
 induction m with
 | nil=>intro p q hp;cases hp
 | cons a r ih =>
   obtain⟨a1,a2⟩:=List.pairwise_cons.1 h
   intro p q hp hq e
   rcases List.mem_cons.1 hp with e1|hp'<;>rcases List.mem_cons.1 hq with e2|hq'
   · rw[e1,e2]
   · have:=a1 q hq';rw[e1] at e;omega
   · have:=a1 p hp';rw[e2] at e;omega
   · exact ih a2 hp' hq' e
theorem ZN (l:List (Int×Int))(c:Int×Int)(a:Int):QJ (l++[c]) a=if c.1=a then c.2 else QJ l a:=by unfold QJ;rw[List.foldl_append];rfl
theorem QIH (l:List (Int×Int))(c:Int×Int):mkS (l++[c])=ZH (mkS l) c:=by unfold mkS;rw[List.foldl_append];rfl
theorem zq (l:List (Int×Int)):∀ p:Int×Int,p∈mkS l↔QJ l p.1=p.2∧p.2≠0:=by
 have key:∀ (n:Nat) (l:List (Int×Int)),l.length=n→∀ p:Int×Int,p∈mkS l↔QJ l p.1=p.2∧p.2≠0:=by
  intro n
  induction n with
  | zero =>
    intro l hl p
    obtain rfl:=List.eq_nil_of_length_eq_zero hl
    constructor
    · intro h;cases h
    · rintro ⟨h1,h2⟩;exact absurd h1.symm h2
  | succ n ih =>
    intro l hl p
    obtain⟨l',c,rfl⟩:∃ l' c,l=l'++[c]:=⟨l.dropLast,l.getLast (by intro h;rw[h] at hl;cases hl),(List.dropLast_concat_getLast _).symm⟩
    have ih:=ih l' (by simpa using hl)
    rw[QIH,ZN]
    unfold ZH
    by_cases hc:c.1=p.1
    · rw[if_pos hc]
      split
      · rename_i h0
        rw[jz]
        constructor
        · rintro ⟨-,h⟩;exact absurd hc.symm h
        · rintro ⟨h1,h2⟩;exact absurd (h1.symm.trans h0) h2
      · rename_i h0
        rw[QBI]
        constructor
        · rintro (rfl|⟨-,h⟩)
          · exact⟨rfl,h0⟩
          · exact absurd hc.symm h
        · rintro ⟨h1,h2⟩
          exact .inl (Prod.ext hc.symm h1.symm)
    · rw[if_neg hc]
      have hne:p.1≠c.1:=fun e=>hc e.symm
      split
      · rw[jz,ih]
        exact⟨fun h=>h.1,fun h=>⟨h,hne⟩⟩
      · rw[QBI,ih]
        constructor
        · rintro (rfl|h)
          · exact absurd rfl hc
          · exact h.1
        · exact fun h=>.inr ⟨h,hne⟩
 exact key _ l rfl
theorem QDa (l:List (Int×Int))(a:Int)(h:QJ l a≠0):∃ c∈l,c.1=a:=by
 have key:∀ (n:Nat) (l:List (Int×Int)),l.length=n→QJ l a≠0→∃ c∈l,c.1=a:=by
  intro n
  induction n with
  | zero =>
    intro l hl h
    obtain rfl:=List.eq_nil_of_length_eq_zero hl
    exact absurd rfl h
  | succ n ih =>
    intro l hl h
    obtain⟨l',c,rfl⟩:∃ l' c,l=l'++[c]:=⟨l.dropLast,l.getLast (by intro h;rw[h] at hl;cases hl),(List.dropLast_concat_getLast _).symm⟩
    rw[ZN] at h
    split at h
    · rename_i e;exact⟨c,by simp,e⟩
    · obtain⟨d,hd,e⟩:=ih l' (by simpa using hl) h
      exact⟨d,by simp[hd],e⟩
 exact key _ l rfl h
theorem QDQ {m:List (Int×Int)}(h:Srt m){p:Int×Int}(hp:p∈m):QJ m p.1=p.2:=by
 have key:∀ (n:Nat) (m:List (Int×Int)),m.length=n→Srt m→p∈m→QJ m p.1=p.2:=by
  intro n
  induction n with
  | zero =>
    intro m hm _ hp
    obtain rfl:=List.eq_nil_of_length_eq_zero hm
    cases hp
  | succ n ih =>
    intro m hm hs hp
    obtain⟨l',c,rfl⟩:∃ l' c,m=l'++[c]:=⟨m.dropLast,m.getLast (by intro h;rw[h] at hm;cases hm),(List.dropLast_concat_getLast _).symm⟩
    rw[ZN]
    have hs':=List.pairwise_append.1 hs
    by_cases hc:c.1=p.1
    · rw[if_pos hc,QKy hs (p:=c) (q:=p) (by simp) hp hc]
    · rw[if_neg hc]
      refine ih l' (by simpa using hm) hs'.1 ?_
      rcases List.mem_append.1 hp with h|h
      · exact h
      · simp at h;exact absurd (congrArg Prod.fst h).symm hc
 exact key _ m rfl h hp
theorem QRT {l:List (Int×Int)} {m:List (Int×Int)}(h:Srt m)(hn:QCE m)(hg:∀ a,QJ m a=QJ l a):mkS l=m :=
 QBs (zu l) h fun p=>by
  rw[zq,←hg]
  constructor
  · rintro ⟨h1,h2⟩
    obtain⟨c,hc,e⟩:=QDa m p.1 (by rw[h1];exact h2)
    have:=QDQ h hc
    rw[e,h1] at this
    have:c=p:=Prod.ext e this.symm
    exact this▸hc
  · exact fun hp=>⟨QDQ h hp,hn p hp⟩
theorem QG4 (l:List (Int×Int))(a:Int):QJ (mkS l) a=QJ l a:=by
 by_cases h:QJ l a=0
 · rw[h]
   by_cases h2:QJ (mkS l) a=0
   · exact h2
   · obtain⟨c,hc,rfl⟩:=QDa _ _ h2
     exact absurd ((zq l c).1 hc).1 (by rw[h];exact fun e=>(QPh l c hc) e.symm)
 · exact QDQ (zu l) (p:=(a,QJ l a)) ((zq l _).2 ⟨rfl,h⟩)
theorem QK6 {l l':List (Int×Int)}(h:∀ a,QJ l a=QJ l' a):mkS l=mkS l':=QRT (zu l') (QPh l') fun a=>by rw[QG4,h]
theorem QKq {l:List (Int×Int)}(h:Jg l)(a:Int):0≤QJ l a∧QJ l a≤255:=by
 have key:∀ (l:List (Int×Int)) (b:Int),Jg l→0≤b∧b≤255→0≤l.foldl (fun b c=>if c.1=a then c.2 else b) b∧l.foldl (fun b c=>if c.1=a then c.2 else b) b≤255:=by
  intro l
  induction l with
  | nil=>intro b _ hb;exact hb
  | cons c r ih =>
    intro b hl hb
    refine ih _ (fun p hp=>hl p (by simp[hp])) ?_
    have:=hl c (by simp)
    show 0≤(if c.1=a then c.2 else b)∧(if c.1=a then c.2 else b)≤255
    by_cases e:c.1=a
    · rw[if_pos e];exact⟨this.2.2.1,this.2.2.2⟩
    · rw[if_neg e];exact hb
 exact key l 0 h ⟨by omega,by omega⟩
def qc (l0:List (Int×Int))(last best:Int)(c:Int×Int):Int:=if decide (c.1 > last)&&decide (c.1 < best)&&(QJ l0 c.1 != 0) then c.1 else best
def QCX (l0:List (Int×Int))(last:Int)(l:List (Int×Int)):Int:=l.foldl (qc l0 last) 65536
theorem QDc (l0:List (Int×Int))(last:Int):∀ (l:List (Int×Int)) (b:Int),l.foldl (qc l0 last) b≤b∧(l.foldl (qc l0 last) b=b∨∃ c∈l,c.1=l.foldl (qc l0 last) b∧c.1 > last∧QJ l0 c.1≠0)∧∀ c∈l,c.1 > last→QJ l0 c.1≠0→l.foldl (qc l0 last) b≤c.1
 | [],b=>⟨Int.le_refl _,.inl rfl,fun _ h=>by cases h⟩
 | c :: r,b=>by
   obtain⟨h1,h2,h3⟩:=QDc l0 last r (qc l0 last b c)
   simp only[List.foldl_cons]
   generalize hg:r.foldl (qc l0 last) (qc l0 last b c)=g at h1 h2 h3 ⊢
   by_cases hc:(decide (c.1 > last)&&decide (c.1 < b)&&(QJ l0 c.1 != 0))=true
   · have e:qc l0 last b c=c.1:=if_pos hc
     simp only[Bool.and_eq_true,decide_eq_true_eq,bne_iff_ne] at hc
     rw[e] at h1 h2
     refine⟨by omega,.inr ?_,fun d hd a1 a2=>?_⟩
     · rcases h2 with h2|⟨d,hd,e1,e2⟩
       · exact⟨c,by simp,h2.symm,hc.1.1,hc.2⟩
       · exact⟨d,by simp[hd],e1,e2⟩
     · rcases List.mem_cons.1 hd with rfl|hd
       · exact h1
       · exact h3 d hd a1 a2
   · have e:qc l0 last b c=b:=if_neg hc
     rw[e] at h1 h2
     refine⟨h1,?_,fun d hd a1 a2=>?_⟩
     · rcases h2 with h2|⟨d,hd,e1,e2⟩
       · exact .inl h2
       · exact .inr ⟨d,by simp[hd],e1,e2⟩
     · rcases List.mem_cons.1 hd with rfl|hd
       · have:¬(d.1 < b):=fun hlt=>hc (by simp[a1,a2,hlt])
         omega
       · exact h3 d hd a1 a2
theorem QIk (l0:List (Int×Int))(last:Int)(l:List (Int×Int))(k:Nat)(h:k < l.length):QCX l0 last (l.take (k+1))=qc l0 last (QCX l0 last (l.take k)) l[k]:=by
 unfold QCX
 rw[←List.take_append_getElem h,List.foldl_append]
 rfl
theorem QLS {l out rest:List (Int×Int)} {last:Int}(h16:Jg l)(hm:mkS l=out++rest)(ho:∀ p∈out,p.1≤last)(hr:∀ p∈rest,last < p.1) :
 QCX l last l=(match rest with|[]=>65536|c :: _=>c.1):=by
 obtain⟨h1,h2,h3⟩:=QDc l last l 65536
 unfold QCX
 generalize l.foldl (qc l last) 65536=b at h1 h2 h3 ⊢
 have inM:∀ a,QJ l a≠0→(a,QJ l a)∈out++rest:=fun a ha=>by rw[←hm];exact (zq l _).2 ⟨rfl,ha⟩
 have hs:Srt (out++rest):=by rw[←hm];exact zu l
 cases rest with
 | nil =>
   rcases h2 with h2|⟨c,hc,e1,e2,e3⟩
   · exact h2
   · have:=inM _ e3
     rw[List.append_nil] at this
     have:=ho _ this
     simp at this
     omega
 | cons d r =>
   show b=d.1
   have hd:d∈mkS l:=by rw[hm];simp
   obtain⟨g1,g2⟩:=(zq l d).1 hd
   have hb:b≤d.1:=by
    obtain⟨c,hc,e⟩:=QDa l d.1 (by rw[g1];exact g2)
    have:=h3 c hc (by rw[e];exact hr d (by simp)) (by rw[e,g1];exact g2)
    rw[e] at this
    exact this
   have h65:=(QBa h16 d hd).2.1
   rcases h2 with h2|⟨c,hc,e1,e2,e3⟩
   · omega
   · have hin:=inM _ e3
     rcases List.mem_append.1 hin with hin|hin
     · have:=ho _ hin
       simp at this
       omega
     · rcases List.mem_cons.1 hin with e|hin
       · rw[←e1,←e]
       · have:=(List.pairwise_cons.1 (List.pairwise_append.1 hs).2.1).1 _ hin
         simp at this
         omega
def Qm (a:Int):List Int→List (Int×Int)
 | []=>[]
 | b :: r=>(a,b) :: Qm ((a+1)%65536) r
theorem QBX:∀ (bs cs:List Int) (a:Int),0≤a∧a≤65535→Qm a (bs++cs)=Qm a bs++Qm ((a+(bs.length:Int))%65536) cs
 | [],cs,a,h=>by simp only[List.nil_append,Qm,List.length_nil];congr 1;omega
 | b :: r,cs,a,h=>by
   simp only[List.cons_append,Qm]
   have e:((a+1)%65536+(r.length:Int))%65536=(a+((b :: r).length:Int))%65536:=by rw[List.length_cons];omega
   rw[QBX r cs _ (by omega),e]
theorem QJJ (bs:List Int)(a:Int)(h:0≤a∧a≤65535)(k:Nat)(hk:k < bs.length):Qm a (bs.take (k+1))=Qm a (bs.take k)++[((a+(k:Int))%65536,bs[k])]:=by
 rw[←List.take_append_getElem hk,QBX _ _ _ h,List.length_take,Nat.min_eq_left (by omega)]
 rfl
theorem QA6:∀ (bs:List Int) (a:Int),(Qm a bs).length=bs.length
 | [],_=>rfl
 | b :: r,a=>by simp only[Qm,List.length_cons,QA6 r]
theorem QFY:∀ (bs:List Int) (a:Int),(∀ b∈bs,0≤b∧b≤255)→0≤a∧a≤65535→Jg (Qm a bs)
 | [],_,_,_=>fun _ h=>by cases h
 | b :: r,a,hb,ha=>by
   intro c hc
   rcases List.mem_cons.1 hc with rfl|hc
   · have:=hb b (by simp)
     exact⟨ha.1,ha.2,this.1,this.2⟩
   · exact QFY r _ (fun x hx=>hb x (by simp[hx])) (by omega) c hc
theorem QD9 {l m:List (Int×Int)}(h:Jg l)(k:Jg m):Jg (l++m):=fun c hc=>(List.mem_append.1 hc).elim (h c) (k c)
def Xx (l:List (Int×Int))(a:Int)(N:Nat):List Int:=(List.range N).map fun (i:Nat)=>QJ l ((a+(i:Int))%65536)
def QCN (l:List (Int×Int))(a n:Int):List Int:=Xx l a (min n.toNat 4096)
theorem Zv (l:List (Int×Int))(a:Int)(N:Nat):(Xx l a N).length=N:=by simp[Xx]
theorem QOz {l:List (Int×Int)}(h:Jg l)(a:Int)(N:Nat):∀ x∈Xx l a N,0≤x∧x≤255:=by
 intro x hx
 obtain⟨i,-,rfl⟩:=List.mem_map.1 hx
 exact QKq h _
theorem QLi (a:Int)(N:Nat):Xx [] a N=List.replicate N 0:=by
 unfold Xx
 apply List.ext_getElem
 · simp
 · intro i h1 h2
   simp[QJ]
theorem QLy (l:List (Int×Int))(c:Int×Int)(a:Int)(N:Nat)(ha:0≤a∧a≤65535)(hc:0≤c.1∧c.1≤65535)(hN:N≤65536):Xx (l++[c]) a N=(Xx l a N).set ((c.1-a)%65536).toNat c.2:=by
 apply List.ext_getElem
 · simp[Xx]
 · intro i h1 h2
   rw[List.getElem_set]
   have hi:i < N:=by simpa [Xx] using h1
   simp only[Xx,List.getElem_map,List.getElem_range,ZN]
   by_cases e:c.1=(a+(i:Int))%65536
   · rw[if_pos e,if_pos (by omega)]
   · rw[if_neg e,if_neg (by omega)]
def dm (m:List (Int×Int)):DataW Unit:=.map (m.map fun c=>(Lit.int .u16 c.1,.lit (.int .u8 c.2)))
theorem QFf (a b:Int):(Lit.int .u16 a).sameKey (.int .u16 b)=decide (a=b):=by simp[Lit.sameKey]
theorem QFK (x:Int×Int):∀ m:List (Int×Int),DataW.insert (Lit.int .u16 x.1,(DataW.lit (.int .u8 x.2):DataW Unit)) (m.map fun c=>(Lit.int .u16 c.1,.lit (.int .u8 c.2)))=(QCm x m).map fun c=>(Lit.int .u16 c.1,.lit (.int .u8 c.2))
 | []=>rfl
 | y :: r=>by
   unfold QCm
   rw[List.map_cons,DataW.insert]
   by_cases h:x.1 < y.1
   · rw[if_pos h]
     exact if_pos (decide_eq_true h)
   · rw[if_neg h,List.map_cons,←QFK x r]
     exact if_neg (fun e=>h (of_decide_eq_true e))
theorem QBo (a:Int):∀ m:List (Int×Int),((m.map fun c=>(Lit.int .u16 c.1,(DataW.lit (.int .u8 c.2):DataW Unit))).filter fun p=>!p.1.sameKey (.int .u16 a))=(QDn a m).map fun c=>(Lit.int .u16 c.1,.lit (.int .u8 c.2))
 | []=>rfl
 | y :: r=>by
   have ih:=QBo a r
   unfold QDn at ih ⊢
   simp only[List.map_cons,List.filter_cons,QFf]
   split
   · rw[List.map_cons,ih]
   · exact ih
theorem QTk (m:List (Int×Int))(a b:Int):(dm m).put (.int .u16 a) (.lit (.int .u8 b))=dm (QIP a b m):=by
 unfold dm QIP
 show DataW.map _=DataW.map _
 rw[QBo]
 exact congrArg DataW.map (QFK (a,b) (QDn a m))
theorem QTr (m:List (Int×Int))(a:Int):(dm m).del (.int .u16 a)=dm (QDn a m):=by
 unfold dm
 show DataW.map _=DataW.map _
 rw[QBo]
theorem QTL (m:List (Int×Int))(a:Int):Maps.has (dm m) (.int .u16 a)=m.any fun p=>decide (p.1=a):=by
 unfold dm
 rw[Maps.has_eq,List.any_map]
 congr 1
 funext p
 exact QFf _ _
theorem QKL (m:List (Int×Int)):Maps.size (dm m)=m.length:=by unfold dm;rw[Maps.size_eq,List.length_map]
theorem QTl {m:List (Int×Int)} {x c:Int}(h:∀ zd,(dm m).atKey (.int .u16 x) zd=.lit (.int .u8 c)):(x,c)∈m:=by
 have h1:=h (.lit (.bool true))
 unfold dm DataW.atKey at h1
 simp only at h1
 split at h1
 · rename_i p hp
   obtain⟨d,hd,e⟩:=List.mem_map.1 (List.mem_of_find?_eq_some hp)
   subst e
   have hk:=List.find?_some hp
   simp only[QFf,decide_eq_true_eq] at hk
   simp at h1
   have:d=(x,c):=Prod.ext hk h1
   exact this▸hd
 · cases h1
structure Sx where
 got:List Int
 m:List (Int×Int)
 p:List Int
 l:List Cy
 n:Int
structure Wd where
 g:Rg
 m:List (Int×Int)
 p:List Int
def Zi (c:Cy)(v:Int)(m:List (Int×Int))(p:List Int):Int :=
 if c.kind=1∨c.kind=2 then QJ m c.addr else if c.kind=4 then p.headD 255 else if c.kind=6 then v else 0
def X5 (c:Cy)(m:List (Int×Int)):List (Int×Int):=if c.kind=3 then m++[(c.addr,c.data)] else m
def jF (c:Cy)(p:List Int):List Int:=if c.kind=4 then p.tail else p
def Zq (c:Cy)(b:Int):Cy:=if c.kind=3∨c.kind=5 then c else { c with data:=b }
def QGi (c:Cy)(b:Int)(l:List Cy):List Cy:=if c.kind=7 then l else l++[Zq c b]
def J3 (c:Cy)(v:Int)(x:Sx):Sx:=⟨x.got++[Zi c v x.m x.p],X5 c x.m,jF c x.p,QGi c (Zi c v x.m x.p) x.l,x.n+c.t⟩
def goS (g:Rg)(which v:Int):Nat→Sx→Sx
 | 0,x=>x
 | k+1,x=>if (Jz g which x.got).b=true then x else goS g which v k (J3 (Jz g which x.got).c v x)
def QF8 (w:Wd):Sx:=⟨[],w.m,w.p,[],0⟩
def Jb (w:Wd)(which v:Int):Sx:=goS w.g which v 200 (QF8 w)
def jD (g:Rg)(which:Int)(x:Sx):Rg:=if (Jz g which x.got).b=true then (Jz g which x.got).g else g
def J5 (w:Wd)(which v:Int):Wd:=⟨jD w.g which (Jb w which v),(Jb w which v).m,(Jb w which v).p⟩
def XF:Nat→Wd→Wd×Int
 | 0,w=>(w,0)
 | k+1,w=>((XF k (J5 w 0 0)).1,(Jb w 0 0).n+(XF k (J5 w 0 0)).2)
def SameM (m m':List (Int×Int)):Prop:=∀ a,QJ m a=QJ m' a
theorem SameM.refl (m:List (Int×Int)):SameM m m:=fun _=>rfl
theorem SameM.symm {m m':List (Int×Int)}(h:SameM m m'):SameM m' m:=fun a=>(h a).symm
theorem SameM.trans {a b c:List (Int×Int)}(h:SameM a b)(k:SameM b c):SameM a c:=fun x=>(h x).trans (k x)
theorem QMg (m:List (Int×Int)):SameM (mkS m) m:=fun a=>QG4 m a
theorem SameM.snoc {m m':List (Int×Int)}(h:SameM m m')(c:Int×Int):SameM (m++[c]) (m'++[c]):=fun a=>by rw[ZN,ZN,h a]
theorem SameM.mk {m m':List (Int×Int)}(h:SameM m m'):mkS m=mkS m':=QK6 h
structure QNl (x y:Sx):Prop where
 got:x.got=y.got
 m:SameM x.m y.m
 p:x.p=y.p
 l:x.l=y.l
 n:x.n=y.n
theorem QOe {m m':List (Int×Int)}(h:SameM m m')(c:Cy)(v:Int)(p:List Int):Zi c v m p=Zi c v m' p:=by unfold Zi;rw[h]
theorem QLv {x y:Sx}(h:QNl x y)(c:Cy)(v:Int):QNl (J3 c v x) (J3 c v y):=by
 obtain⟨h1,h2,h3,h4,h5⟩:=h
 have e:Zi c v x.m x.p=Zi c v y.m y.p:=by rw[h3];exact QOe h2 c v _
 refine⟨by simp only[J3,e,h1],?_,by simp only[J3,h3],by simp only[J3,e,h4],by simp only[J3,h5]⟩
 simp only[J3,X5]
 split
 · exact h2.snoc _
 · exact h2
theorem QKx (g:Rg)(which v:Int):∀ (k:Nat) {x y:Sx},QNl x y→QNl (goS g which v k x) (goS g which v k y)
 | 0,x,y,h=>h
 | k+1,x,y,h=>by
   unfold goS
   rw[h.got]
   split
   · exact h
   · exact QKx g which v k (QLv h _ v)
structure SimW (w u:Wd):Prop where
 g:w.g=u.g
 m:SameM w.m u.m
 p:w.p=u.p
theorem SimW.refl (w:Wd):SimW w w:=⟨rfl,.refl _,rfl⟩
theorem QM2 {w u:Wd}(h:SimW w u)(which v:Int):QNl (Jb w which v) (Jb u which v):=by
 unfold Jb
 rw[h.g]
 exact QKx _ _ _ _ ⟨rfl,h.m,h.p,rfl,rfl⟩
theorem QLH {w u:Wd}(h:SimW w u)(which v:Int):SimW (J5 w which v) (J5 u which v):=by
 have k:=QM2 h which v
 exact⟨by simp only[J5,jD,h.g,k.got],k.m,k.p⟩
theorem QGw:∀ (j k:Nat) (w:Wd),(XF (j+k) w).1=(XF k (XF j w).1).1∧(XF (j+k) w).2=(XF j w).2+(XF k (XF j w).1).2
 | 0,k,w=>by rw[Nat.zero_add];exact⟨rfl,by simp[XF]⟩
 | j+1,k,w=>by
   rw[show j+1+k=(j+k)+1 by omega]
   have ih:=QGw j k (J5 w 0 0)
   exact⟨ih.1,by simp only[XF,ih.2];omega⟩
def itS (g:Rg)(which v:Int):Nat→Sx→Sx
 | 0,x=>x
 | j+1,x=>J3 (Jz g which (itS g which v j x).got).c v (itS g which v j x)
theorem zy (g:Rg)(which v:Int):∀ (j:Nat) (x:Sx),itS g which v (j+1) x=itS g which v j (J3 (Jz g which x.got).c v x)
 | 0,x=>rfl
 | j+1,x=>by
   have ih:=zy g which v j x
   rw[itS,ih,itS]
theorem QOr (g:Rg)(which v:Int):∀ (k:Nat) (x:Sx),∃ N,N≤k∧goS g which v k x=itS g which v N x∧(∀ j,j < N→(Jz g which (itS g which v j x).got).b=false)∧(N < k→(Jz g which (itS g which v N x).got).b=true)
 | 0,x=>⟨0,Nat.le_refl _,rfl,fun j h=>by omega,fun h=>by omega⟩
 | k+1,x=>by
   by_cases hb:(Jz g which x.got).b=true
   · exact⟨0,by omega,by rw[goS,if_pos hb];rfl,fun j h=>by omega,fun _=>hb⟩
   · obtain⟨N,h1,h2,h3,h4⟩:=QOr g which v k (J3 (Jz g which x.got).c v x)
     refine⟨N+1,by omega,by rw[goS,if_neg hb,h2,zy],fun j hj=>?_,fun h=>?_⟩
     · cases j with
       | zero=>show (Jz g which x.got).b=false;simpa using hb
       | succ j=>rw[zy];exact h3 j (by omega)
     · rw[zy];exact h4 (by omega)
theorem QHC (w:Wd)(which v:Int):∃ N,N≤200∧Jb w which v=itS w.g which v N (QF8 w)∧(∀ j,j < N→(Jz w.g which (itS w.g which v j (QF8 w)).got).b=false)∧(N < 200→(Jz w.g which (itS w.g which v N (QF8 w)).got).b=true):=QOr _ _ _ _ _
theorem QSY (g:Rg)(which v:Int)(x:Sx):∀ (N:Nat),(∀ j,j < N→(Jz g which (itS g which v j x).got).b=false)→x.n+N≤(itS g which v N x).n∧(itS g which v N x).n≤x.n+7*N
 | 0,_=>by simp[itS]
 | N+1,h=>by
   have ih:=QSY g which v x N fun j hj=>h j (by omega)
   have ht:=QSU g which _ (h N (by omega))
   simp only[itS,J3]
   omega
theorem QKs (w:Wd)(which v:Int):0≤(Jb w which v).n∧(Jb w which v).n≤1400:=by
 obtain⟨N,h1,h2,h3,-⟩:=QHC w which v
 have:=QSY w.g which v (QF8 w) N h3
 rw[h2]
 have e:(QF8 w).n=0:=rfl
 omega
theorem QHf (c:Cy)(m:List (Int×Int)):(X5 c m).length≤m.length+1:=by
 unfold X5
 split
 · simp
 · omega
theorem QHc (g:Rg)(which v:Int)(x:Sx)(j:Nat):∀ k,(itS g which v (j+k) x).m.length≤(itS g which v j x).m.length+k
 | 0=>Nat.le_refl _
 | k+1=>by
   have ih:=QHc g which v x j k
   have:=QHf (Jz g which (itS g which v (j+k) x).got).c (itS g which v (j+k) x).m
   show (X5 (Jz g which (itS g which v (j+k) x).got).c (itS g which v (j+k) x).m).length≤_
   omega
theorem qn (w:Wd)(which v:Int):(Jb w which v).m.length≤w.m.length+200:=by
 obtain⟨N,h1,h2,-,-⟩:=QHC w which v
 rw[h2]
 have:=QHc w.g which v (QF8 w) 0 N
 rw[Nat.zero_add] at this
 simp only[itS,QF8] at this ⊢
 omega
theorem QNV (c:Cy)(p:List Int):(jF c p).length≤p.length:=by
 unfold jF
 split
 · simp
 · omega
theorem QH4 (g:Rg)(which v:Int):∀ (k:Nat) (x:Sx),(goS g which v k x).p.length≤x.p.length
 | 0,x=>Nat.le_refl _
 | k+1,x=>by
   unfold goS
   split
   · exact Nat.le_refl _
   · exact Nat.le_trans (QH4 g which v k _) (QNV _ _)
theorem zB (w:Wd)(which v:Int):(Jb w which v).p.length≤w.p.length:=QH4 _ _ _ _ _
def jH:Prop:=∀ (g:Rg) (which:Int) (xs:List Int),RgB g→Bytes8 xs→((Jz g which xs).b=true→RgB (Jz g which xs).g)∧((Jz g which xs).b=false→Wd16 (Jz g which xs).c.addr∧B8 (Jz g which xs).c.data)
structure OkS (x:Sx):Prop where
 got:Bytes8 x.got
 m:Jg x.m
 p:Bytes8 x.p
structure OkW (w:Wd):Prop where
 g:RgB w.g
 m:Jg w.m
 p:Bytes8 w.p
theorem OkW.beg {w:Wd}(h:OkW w):OkS (QF8 w):=⟨fun x hx=>(by cases hx),h.m,h.p⟩
theorem QNw {p:List Int}(h:Bytes8 p):B8 (p.headD 255):=by
 cases p with
 | nil=>exact⟨by decide,by decide⟩
 | cons b r=>exact h.head
theorem QKB {x:Sx}(h:OkS x)(c:Cy){v:Int}(hv:B8 v):B8 (Zi c v x.m x.p):=by
 unfold Zi
 split
 · exact QKq h.m _
 split
 · exact QNw h.p
 split
 · exact hv
 · exact B8.zero
theorem Bytes8.snoc {xs:List Int}(h:Bytes8 xs){b:Int}(hb:B8 b):Bytes8 (xs++[b]):=fun x hx=>by
 rcases List.mem_append.1 hx with e|e
 · exact h x e
 · rw[List.mem_singleton.1 e];exact hb
theorem Bytes8.tl {p:List Int}(h:Bytes8 p):Bytes8 p.tail:=fun x hx=>h x (List.mem_of_mem_tail hx)
theorem OkS.next {x:Sx}(h:OkS x){c:Cy}(hc:Wd16 c.addr∧B8 c.data){v:Int}(hv:B8 v):OkS (J3 c v x):=by
 refine⟨h.got.snoc (QKB h c hv),?_,?_⟩
 · show Jg (X5 c x.m)
   unfold X5
   split
   · exact QD9 h.m fun d hd=>by
      rw[List.mem_singleton.1 hd]
      exact⟨hc.1.1,hc.1.2,hc.2.1,hc.2.2⟩
   · exact h.m
 · show Bytes8 (jF c x.p)
   unfold jF
   split
   · exact h.p.tl
   · exact h.p
theorem OkS.go (hA:jH){g:Rg}(hg:RgB g)(which:Int){v:Int}(hv:B8 v):∀ (k:Nat) {x:Sx},OkS x→OkS (goS g which v k x)
 | 0,x,h=>h
 | k+1,x,h=>by
   unfold goS
   split
   · exact h
   · rename_i hb
     exact OkS.go hA hg which hv k (h.next ((hA g which x.got hg h.got).2 (by simpa using hb)) hv)
theorem OkW.x (hA:jH){w:Wd}(h:OkW w)(which:Int){v:Int}(hv:B8 v):OkS (Jb w which v):=h.beg.go hA h.g which hv 200
theorem OkW.pstepW (hA:jH){w:Wd}(h:OkW w)(which:Int){v:Int}(hv:B8 v):OkW (J5 w which v):=by
 have k:=h.x hA which hv
 refine⟨?_,k.m,k.p⟩
 show RgB (jD w.g which _)
 unfold jD
 split
 · rename_i hb
   exact (hA _ _ _ h.g k.got).1 hb
 · exact h.g
theorem OkW.run (hA:jH):∀ (k:Nat) {w:Wd},OkW w→OkW (XF k w).1
 | 0,w,h=>h
 | k+1,w,h=>OkW.run hA k (h.pstepW hA 0 B8.zero)
def wrS (l:List Cy)(m:List (Int×Int)):List (Int×Int):=l.foldl (fun m c=>X5 c m) m
def inS (l:List Cy):Nat:=(l.filter fun c=>decide (c.kind=4)).length
theorem QQ8 (l:List Cy)(c:Cy)(m:List (Int×Int)):wrS (l++[c]) m=X5 c (wrS l m):=by unfold wrS;rw[List.foldl_append];rfl
theorem QQ5 (l:List Cy)(c:Cy):inS (l++[c])=if c.kind=4 then inS l+1 else inS l:=by
 unfold inS
 rw[List.filter_append,List.length_append]
 by_cases h:c.kind=4<;>simp[h]
structure TellS (v:Int)(m0:List (Int×Int))(p0:List Int)(x:Sx):Prop where
 m:x.m=wrS x.l m0
 p:x.p=p0.drop (inS x.l)
 at_:∀ (k:Nat) (h:k < x.l.length),x.l[k].kind≠7∧(x.l[k].kind=1∨x.l[k].kind=2→x.l[k].data=QJ (wrS (x.l.take k) m0) x.l[k].addr)∧(x.l[k].kind=6→x.l[k].data=v)
theorem QBJ (c:Cy)(b:Int):(Zq c b).kind=c.kind:=by unfold Zq;split<;>rfl
theorem QIX (c:Cy)(b:Int):(Zq c b).addr=c.addr:=by unfold Zq;split<;>rfl
theorem QQJ (c:Cy)(b:Int)(m:List (Int×Int)):X5 (Zq c b) m=X5 c m:=by
 unfold X5
 rw[QBJ,QIX]
 by_cases h:c.kind=3
 · rw[if_pos h,if_pos h]
   unfold Zq
   rw[if_pos (.inl h)]
 · rw[if_neg h,if_neg h]
theorem TellS.next {v:Int} {m0:List (Int×Int)} {p0:List Int} {x:Sx}(h:TellS v m0 p0 x)(c:Cy):TellS v m0 p0 (J3 c v x):=by
 obtain⟨h1,h2,h3⟩:=h
 by_cases h7:c.kind=7
 · have e:(J3 c v x).l=x.l:=by show QGi c _ x.l=x.l;unfold QGi;rw[if_pos h7]
   have em:(J3 c v x).m=x.m:=by show X5 c x.m=x.m;unfold X5;rw[if_neg (by omega)]
   have ep:(J3 c v x).p=x.p:=by show jF c x.p=x.p;unfold jF;rw[if_neg (by omega)]
   exact⟨by rw[em,e];exact h1,by rw[ep,e];exact h2,by rw[e];exact h3⟩
 · have e:(J3 c v x).l=x.l++[Zq c (Zi c v x.m x.p)]:=by show QGi c _ x.l=_;unfold QGi;rw[if_neg h7]
   refine⟨?_,?_,?_⟩
   · rw[e,QQ8,QQJ,←h1];rfl
   · rw[e,QQ5,QBJ]
     show jF c x.p=_
     unfold jF
     split
     · rw[h2,List.tail_drop]
     · exact h2
   · rw[e]
     intro k hk
     rw[List.length_append,List.length_singleton] at hk
     by_cases hl:k < x.l.length
     · rw[List.getElem_append_left hl,List.take_append_of_le_length (by omega)]
       exact h3 k hl
     · obtain rfl:k=x.l.length:=by omega
       rw[List.getElem_append_right (Nat.le_refl _),List.take_left]
       simp only[Nat.sub_self,List.getElem_cons_zero]
       rw[QBJ,QIX,←h1]
       refine⟨h7,fun hk=>?_,fun hk=>?_⟩
       · unfold Zq
         rw[if_neg (by omega)]
         show Zi c v x.m x.p=_
         unfold Zi
         rw[if_pos hk]
       · unfold Zq
         rw[if_neg (by omega)]
         show Zi c v x.m x.p=_
         unfold Zi
         rw[if_neg (by omega),if_neg (by omega),if_pos hk]
theorem TellS.go {v:Int} {m0:List (Int×Int)} {p0:List Int}(g:Rg)(which:Int):∀ (k:Nat) {x:Sx},TellS v m0 p0 x→TellS v m0 p0 (goS g which v k x)
 | 0,x,h=>h
 | k+1,x,h=>by
   unfold goS
   split
   · exact h
   · exact TellS.go g which k (h.next _)
def CellsIn (w:World)(B:Nat)(A:Option Addr)(l:List (Int×Int)):Prop :=
 ∀ (j:Nat) (c:Int×Int),l[j]? = some c→∃ p,A=some p∧p.block < B∧w.cell? (p.add (j*2))=some (.int .u16 c.1)∧w.cell? ((p.add (j*2)).add 1)=some (.int .u8 c.2)
theorem CellsIn.nil (w:World)(B:Nat)(A:Option Addr):CellsIn w B A []:=fun j c h=>by simp at h
theorem CellsIn.keep {w w':World} {B:Nat} {A:Option Addr} {l:List (Int×Int)}(h:CellsIn w B A l)(k:∀ b,b < B→w'.heap[b]? = w.heap[b]?):CellsIn w' B A l:=fun j c hc=>by
 obtain⟨p,e,hb,h1,h2⟩:=h j c hc
 exact⟨p,e,hb,(World.cell?_of_block (by rw[add_block];exact k _ hb)).trans h1,(World.cell?_of_block (by rw[add_block,add_block];exact k _ hb)).trans h2⟩
theorem CellsIn.more {w:World} {B B':Nat} {A:Option Addr} {l:List (Int×Int)}(h:CellsIn w B A l)(k:B≤B'):CellsIn w B' A l:=fun j c hc=>by
 obtain⟨p,e,hb,h1,h2⟩:=h j c hc
 exact⟨p,e,Nat.lt_of_lt_of_le hb k,h1,h2⟩
theorem CellsIn.below {w w':World} {B:Nat} {A:Option Addr} {l:List (Int×Int)}(h:CellsIn w B A l)(k:Below B w w'):CellsIn w' B A l:=h.keep fun b hb=>k.block b hb
theorem CellsIn.at_ {w:World} {B:Nat} {A:Option Addr} {l:List (Int×Int)}(h:CellsIn w B A l){k:Nat}(hk:k < l.length):∃ p,A=some p∧p.block < B∧w.cell? (p.add (k*2))=some (.int .u16 l[k].1)∧w.cell? ((p.add (k*2)).add 1)=some (.int .u8 l[k].2):=h k _ (List.getElem?_eq_getElem hk)
def cvs:List (Int×Int)→List Value
 | []=>[]
 | c :: r=>.int .u16 c.1 :: .int .u8 c.2 :: cvs r
theorem jI:∀ l:List (Int×Int),(cvs l).length=l.length*2
 | []=>rfl
 | c :: r=>by simp only[cvs,List.length_cons,jI r];omega
theorem QAc:∀ l m:List (Int×Int),cvs l++cvs m=cvs (l++m)
 | [],_=>rfl
 | c :: r,m=>by simp only[cvs,List.cons_append,QAc r m]
theorem QBQ:∀ (l:List (Int×Int)) (j:Nat),(cvs l)[j*2]? = l[j]?.map fun c=>.int .u16 c.1
 | [],j=>by simp[cvs]
 | c :: r,0=>rfl
 | c :: r,j+1=>by
   rw[show (j+1)*2=j*2+1+1 by omega]
   simp only[cvs,List.getElem?_cons_succ]
   exact QBQ r j
theorem QCy:∀ (l:List (Int×Int)) (j:Nat),(cvs l)[j*2+1]? = l[j]?.map fun c=>.int .u8 c.2
 | [],j=>by simp[cvs]
 | c :: r,0=>rfl
 | c :: r,j+1=>by
   rw[show (j+1)*2+1=j*2+1+1+1 by omega]
   simp only[cvs,List.getElem?_cons_succ]
   exact QCy r j
theorem QCv:∀ l:List (Int×Int),∀ u∈cvs l,u.oneCell'=true
 | [],_,h=>by cases h
 | c :: r,u,h=>by
   simp only[cvs,List.mem_cons] at h
   rcases h with rfl|rfl|h
   · rfl
   · rfl
   · exact QCv r u h
theorem CellsIn.values {w:World} {B:Nat} {p:Addr} {l:List (Int×Int)}(h:CellsIn w B (some p) l):∀ j u,(cvs l)[j]? = some u→w.cell? (p.add j)=some u:=fun j u hu=>by
 have hd:j=j / 2*2∨j=j / 2*2+1:=by omega
 rcases hd with e|e
 · rw[e,QBQ] at hu
   obtain⟨c,hc,rfl⟩:=Option.map_eq_some_iff.1 hu
   obtain⟨q,eq,-,h1,-⟩:=h _ c hc
   cases eq
   rw[e];exact h1
 · rw[e,QCy] at hu
   obtain⟨c,hc,rfl⟩:=Option.map_eq_some_iff.1 hu
   obtain⟨q,eq,-,-,h2⟩:=h _ c hc
   cases eq
   rw[e,←zr];exact h2
theorem CellsIn.of_values {w:World} {B:Nat} {p:Addr} {l:List (Int×Int)}(hb:p.block < B)(h:∀ j u,(cvs l)[j]? = some u→w.cell? (p.add j)=some u):CellsIn w B (some p) l:=fun j c hc =>
 ⟨p,rfl,hb,h _ _ (by rw[QBQ,hc];rfl),by rw[zr];exact h _ _ (by rw[QCy,hc];rfl)⟩
theorem QMh:(Tryz.prog.info? 57).map (fun i=>(i.zero,i.size,i.bytes))=some (some (.agg #[.int .u16 0,.int .u8 0]),2,4):=by kernel_rfl
theorem Z4 {W:World} {b n:Nat} {v:Value} {l:List (Int×Int)}(h:W.ownsRow b 57 2 v n (cvs l)):∃ A c,v=.slice A n c∧n≤c∧CellsIn W W.heap.size A l∧(A=none→c=0):=by
 rcases h.2 with ⟨e1,e2⟩|⟨g,c,cur,e1,-,hh,hle,-⟩
 · subst e1 e2
   have h1:=h.1
   rw[jI] at h1
   obtain rfl:l=[]:=List.eq_nil_of_length_eq_zero (by omega)
   exact⟨none,0,rfl,Nat.le_refl _,CellsIn.nil _ _ _,fun _=>rfl⟩
 · subst e1
   exact⟨_,c,rfl,hle,CellsIn.of_values (Array.getElem?_eq_some_iff.1 hh).1 (h.cells (g:=g) rfl),fun e=>by cases e⟩
theorem QBd {w:World} {b c:Nat} {e:TypeId} {s:Nat} {v:Value} {n:Nat} {xs:List Value}(h:w.ownsRow c e s v n xs)(hbc:b≤c):w.ownsRow b e s v n xs:=by
 obtain⟨h1,h2⟩:=h
 refine⟨h1,?_⟩
 rcases h2 with h2|⟨g,cap,cur,e,hb,rest⟩
 · exact .inl h2
 · exact .inr ⟨g,cap,cur,e,Nat.le_trans hbc hb,rest⟩
theorem QAP {ops:Array Oper} {rest:List Oper} {o:Oper} {a:Act} {w:World} {Q:Exit→Act→World→Prop}(hgd:o.guard=none)(s x:Operand)
 (ho:o.op=.call { callee:=.builtin .append,args:=#[s,x],argTypes:=#[25,25] })
 (base B:Nat)(hbase:base≤w.heap.size)
 (v:Value)(n:Nat)(l:List (Int×Int))(hs:a.eval s=v)(hown:w.ownsRow base 57 2 v n (cvs l))
 (A:Option Addr)(c:Nat)(ys:List (Int×Int))(hx:a.eval x=.slice A ys.length c)(hy:CellsIn w B A ys)(hn:A=none→c=0)(hmax:n+ys.length≤35184372088832)
 (h:∀ v' w',w'.ownsRow base 57 2 v' (n+ys.length) (cvs (l++ys))→w.grownBy w' v.ownBlock→wpList Tryz.prog ops Q rest (a.put o.dst v') w') :
 wpList Tryz.prog ops Q (o :: rest) a w:=by
 obtain⟨i0,hi0,hz0,hz1,hz2⟩:=info_parts QMh
 rcases A with _|p
 · obtain rfl:=hn rfl
   have hy0:ys=[]:=by
    cases ys with
    | nil=>rfl
    | cons y ys' =>
      obtain⟨ad,e,-⟩:=hy 0 y rfl
      cases e
   subst hy0
   refine wpList_append_own_none hgd s x _ ho base 57 i0 2 Tryz.underlying25 hi0 v n (cvs l) hs hown hx ?_
   exact h v w (by simpa using hown) ⟨rfl,rfl,rfl,Nat.le_refl _,fun _ _ _=>rfl⟩
 · refine wpList_append_own_at _ hgd s x _ ho base 57 i0 _ 2 4 Tryz.underlying25 hi0 hz0 hz1 hz2 rfl (by omega) v n (cvs l) hs hown p ys.length c (cvs ys) hx (jI ys) hy.values (QCv ys) (by simp only[maxLen];omega) (by omega) hbase ?_
   intro v' w' own' hg _ _
   rw[QAc] at own'
   exact h v' w' own' hg
section
variable {ops:Array Oper} {Q:Exit→Act→World→Prop} {base:List Value} {rest:List Oper} {l:JV} {w:World} {o:Oper}
theorem qAc (s x:Operand)(bs B:Nat)(v:Value)(n:Nat)(got:List (Int×Int))(A:Option Addr)(c:Nat)(ys:List (Int×Int))(hbs:bs≤w.heap.size)
 (hown:w.ownsRow bs 57 2 v n (cvs got))(hy:CellsIn w B A ys)(hn:A=none→c=0)(hmax:n+ys.length≤35184372088832)
 (h:∀ v' w',w'.ownsRow bs 57 2 v' (n+ys.length) (cvs (got++ys))→w.grownBy w' v.ownBlock→WO Tryz.prog ops Q base rest (Qu o.dst v' l) w')
 (ho:o.op=.call { callee:=.builtin .append,args:=#[s,x],argTypes:=#[25,25] }:=by exact rfl)(hg:o.guard=none:=by exact rfl)(hs:evO base l s=v:=by kernel_rfl)(hx:evO base l x=.slice A ys.length c:=by kernel_rfl)(hd:Qz o.dst base.length=true:=by kernel_rfl):WO Tryz.prog ops Q base (o :: rest) l w :=
 ⟨fun hi=>⟨QAP hg s x ho bs B hbs v n got (by rw[Jc hi];exact hs) hown A c ys (by rw[Jc hi];exact hx) hy hn hmax fun v' w' h1 h2=>by rw[Jt];exact ((h v' w' h1 h2).h (Q5 hd hi)).h⟩⟩
theorem QJp (p:Addr)(n c k:Nat)(h:k < n)(w:World):(Instr.indexAt 25 (.slice (some p) n c) (.int .i64 (k:Int))).run Tryz.prog w=.ok (.pointer (some (p.add (k*2)))) w:=by
 have h1:(k:Int) < n:=by omega
 simp[go_sem,h]
theorem QNc (p:Addr)(w:World):(Instr.fieldAt 57 (.pointer (some p)) 0).run Tryz.prog w=.ok (.pointer (some (p.add 0))) w:=by simp[go_sem]
theorem QUU (p:Addr)(w:World):(Instr.fieldAt 57 (.pointer (some p)) 1).run Tryz.prog w=.ok (.pointer (some (p.add 1))) w:=by simp[go_sem]
theorem QIh {w:World} {p:Addr} {a b:Int}(h1:w.cell? p=some (.int .u16 a))(h2:w.cell? (p.add 1)=some (.int .u8 b)):(Instr.loadAt 57 (.pointer (some p))).run Tryz.prog w=.ok (.agg #[.int .u16 a,.int .u8 b]) w:=by
 have h3:w.cell? { block:=p.block,off:=p.off+1 }=some (.int .u8 b):=by simpa [Addr.add] using h2
 simp[go_sem,h1,h3]
end
theorem CellsIn.ld0 {w:World} {B:Nat} {p:Addr} {l:List (Int×Int)}(h:CellsIn w B (some p) l){k:Nat}(hk:k < l.length):(Instr.loadAt 22 (.pointer (some ((p.add (k*2)).add 0)))).run Tryz.prog w=.ok (.int .u16 l[k].1) w:=by
 obtain⟨q,e,-,h1,-⟩:=h.at_ hk
 cases e
 rw[add_zero']
 exact ldA h1
theorem CellsIn.ld1 {w:World} {B:Nat} {p:Addr} {l:List (Int×Int)}(h:CellsIn w B (some p) l){k:Nat}(hk:k < l.length):(Instr.loadAt 5 (.pointer (some ((p.add (k*2)).add 1)))).run Tryz.prog w=.ok (.int .u8 l[k].2) w:=by
 obtain⟨q,e,-,-,h2⟩:=h.at_ hk
 cases e
 exact ldD h2
theorem CellsIn.ldW {w:World} {B:Nat} {p:Addr} {l:List (Int×Int)}(h:CellsIn w B (some p) l){k:Nat}(hk:k < l.length):(Instr.loadAt 57 (.pointer (some (p.add (k*2))))).run Tryz.prog w=.ok (.agg #[.int .u16 l[k].1,.int .u8 l[k].2]) w:=by
 obtain⟨q,e,-,h1,h2⟩:=h.at_ hk
 cases e
 exact QIh h1 h2
def MapAt (w:World)(b n:Nat)(m:List (Int×Int)):Prop:=w.ownsMap Tryz.prog 22 (plainElem (H:=Unit) Tryz.prog 5) b n (dm m)
theorem QC2:Maps.Keyed Tryz.prog 22:=Maps.int_keyed Tryz.underlying22
theorem wf16 {a:Int}(h:0≤a∧a≤65535):(Lit.int .u16 a).wf=true:=by simp[Lit.wf,IntKind.min,IntKind.max,IntKind.bits,IntKind.signed];omega
theorem wf8 {a:Int}(h:0≤a∧a≤255):(Lit.int .u8 a).wf=true:=by simp[Lit.wf,IntKind.min,IntKind.max,IntKind.bits,IntKind.signed];omega
theorem QPs {a:Int}(h:(Lit.int .u16 a).wf=true):0≤a∧a≤65535:=by simp[Lit.wf,IntKind.min,IntKind.max,IntKind.bits,IntKind.signed] at h;omega
theorem QTw {a:Int}(h:(Lit.int .u8 a).wf=true):0≤a∧a≤255:=by simp[Lit.wf,IntKind.min,IntKind.max,IntKind.bits,IntKind.signed] at h;omega
theorem QSr {a:Int}(h:0≤a∧a≤65535):keyOf Tryz.prog 22 (.int .u16 a)=some (.int .u16 a):=Maps.keyOf_int_mk Tryz.underlying22 (wf16 h)
theorem QTE:Tryz.prog.underlying 88=some (.map 22 5):=Tryz.underlying88
theorem MapAt.made (w:World):MapAt (w.alloc (.map #[] 0)) w.heap.size 0 []:=World.ownsMap_made w _ _ _
theorem MapAt.lt {w:World} {b n:Nat} {m:List (Int×Int)}(h:MapAt w b n m):b < w.heap.size:=World.ownsMap.lt h
theorem MapAt.grown {w w':World} {b n:Nat} {m:List (Int×Int)} {row:Option Nat}(h:MapAt w b n m)(k:w.grownBy w' row)(hb:some b≠row):MapAt w' b n m:=World.ownsMap.kept h k hb
theorem MapAt.below {w w':World} {b n:Nat} {m:List (Int×Int)}(h:MapAt w b n m)(k:Below w.heap.size w w'):MapAt w' b n m :=
 h.grown (row:=none) ⟨k.os,k.tape,k.output,k.size,fun i hi _=>k.block i hi⟩ (by simp)
theorem MapAt.size {w:World} {b n:Nat} {m:List (Int×Int)}(h:MapAt w b n m):m.length≤n:=by
 have:=World.ownsMap.size_le h
 rwa [QKL] at this
theorem MapAt.store {w:World} {b n:Nat} {m:List (Int×Int)}(h:MapAt w b n m)(hn:n < maxLen){a v:Int}(ha:0≤a∧a≤65535)(hv:0≤v∧v≤255) :
 ∃ w',(Instr.mapUpdate 88 (.map (some b)) (.int .u16 a) (.int .u8 v)).run Tryz.prog w=.ok () w'∧MapAt w' b (n+1) (QIP a v m)∧w.grownBy w' (some b):=by
 obtain⟨w',h1,h2,h3⟩:=World.ownsMap.update h QC2 QTE hn (QSr ha) (plainElem_int Tryz.underlying5 (wf8 hv))
 rw[QTk] at h2
 exact⟨w',h1,h2,h3⟩
theorem MapAt.drop {w:World} {b n:Nat} {m:List (Int×Int)}(h:MapAt w b n m){a:Int}(ha:0≤a∧a≤65535)(ty:TypeId) :
 ∃ w',(Builtin.delete_ #[88,22] ty #[.map (some b),.int .u16 a]).run Tryz.prog w=.ok (.tuple #[]) w'∧MapAt w' b n (QDn a m)∧w.grownBy w' (some b):=by
 obtain⟨w',h1,h2,h3⟩:=World.ownsMap.drop h QC2 QTE (QSr ha) ty
 rw[QTr] at h2
 exact⟨w',h1,h2,h3.grown⟩
def RangeAt (w:World)(b r n:Nat)(m:List (Int×Int))(left:Int→Bool)(cnt:Nat):Prop:=∃ lf,(∀ x,lf (.int .u16 x)=left x)∧w.ranges Tryz.prog 22 (plainElem (H:=Unit) Tryz.prog 5) b r n (dm m) lf cnt
theorem RangeAt.lt {w:World} {b r n:Nat} {m:List (Int×Int)} {left:Int→Bool} {cnt:Nat}(h:RangeAt w b r n m left cnt):r < w.heap.size:=by obtain⟨lf,-,h⟩:=h;exact h.lt
theorem RangeAt.map {w:World} {b r n:Nat} {m:List (Int×Int)} {left:Int→Bool} {cnt:Nat}(h:RangeAt w b r n m left cnt):MapAt w b n m:=by obtain⟨lf,-,h⟩:=h;exact h.owns
theorem RangeAt.grown {w w':World} {b r n:Nat} {m:List (Int×Int)} {left:Int→Bool} {cnt:Nat} {row:Option Nat}(h:RangeAt w b r n m left cnt)(k:w.grownBy w' row)(hb:some b≠row)(hr:some r≠row):RangeAt w' b r n m left cnt:=by
 obtain⟨lf,h1,h2⟩:=h
 exact⟨lf,h1,h2.kept k hb hr⟩
theorem RangeAt.below {w w':World} {b r n:Nat} {m:List (Int×Int)} {left:Int→Bool} {cnt:Nat}(h:RangeAt w b r n m left cnt)(k:Below w.heap.size w w'):RangeAt w' b r n m left cnt :=
 h.grown (row:=none) ⟨k.os,k.tape,k.output,k.size,fun i hi _=>k.block i hi⟩ (by simp) (by simp)
theorem MapAt.range {w:World} {b n:Nat} {m:List (Int×Int)}(h:MapAt w b n m) :
 ∃ w',(Instr.range 88 (.map (some b))).run Tryz.prog w=.ok (.pointer (some ⟨w.heap.size,0,none⟩)) w'∧RangeAt w' b w.heap.size n m (fun x=>m.any fun p=>decide (p.1=x)) m.length∧Below w.heap.size w w':=by
 obtain⟨w',h1,h2,h3,h4⟩:=World.ownsMap.range h QC2 QTE
 rw[QKL] at h2
 exact⟨w',h1,⟨_,fun x=>QTL m x,h2⟩,⟨h3.os,h3.tape,h3.output,h3.size,fun i hi=>h3.block i hi (by simp)⟩⟩
theorem RangeAt.next {w:World} {b r n:Nat} {m:List (Int×Int)} {left:Int→Bool} {cnt:Nat}(h:RangeAt w b r n m left cnt)(ty:TypeId) :
 ((∀ x,left x=false)∧(Instr.next (.pointer (some ⟨r,0,none⟩)) false ty).run Tryz.prog w=.ok (.tuple #[.bool false]) w) ∨
 ∃ x c w' cnt',(0≤x∧x≤65535)∧(0≤c∧c≤255)∧left x=true∧(x,c)∈m∧(Instr.next (.pointer (some ⟨r,0,none⟩)) false ty).run Tryz.prog w=.ok (.tuple #[.bool true,.int .u16 x,.int .u8 c]) w' ∧
  RangeAt w' b r n m (fun z=>left z&&!decide (z=x)) cnt'∧cnt' < cnt∧w.grownBy w' (some r)∧(Instr.entry (.pointer (some ⟨r,0,none⟩))).run Tryz.prog w'=.ok (.tuple #[.int .u16 x,.int .u8 c]) w':=by
 obtain⟨lf,hlf,h⟩:=h
 rcases h.next QC2 ty with ⟨-,h2,h3⟩|⟨key,v,kl,y,w',cnt',hkey,hlk,hv,hat,hrun,hrg,hlt,hgr,hsz,hen⟩
 · exact .inl ⟨fun x=>by rw[←hlf];exact h2 _,h3⟩
 · obtain⟨x,rfl,rfl,hwx⟩:=Maps.keyOf_int_inv Tryz.underlying22 hkey
   obtain⟨c,rfl,rfl,hwc⟩:=plainElem_int_inv Tryz.underlying5 hv
   exact .inr ⟨x,c,w',cnt',QPs hwx,QTw hwc,by rw[←hlf];exact hlk,QTl hat,hrun,⟨_,fun z=>by show (lf _&&!(Lit.int .u16 z).sameKey (.int .u16 x))=(left z&&!decide (z=x));rw[hlf,QFf],hrg⟩,hlt,hgr,hen⟩
end Go.Proofs.YtbhaojlikgdgjaaGreatDoor
