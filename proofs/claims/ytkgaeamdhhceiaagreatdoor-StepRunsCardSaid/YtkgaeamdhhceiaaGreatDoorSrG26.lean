/- Contracts and facts that the claim's proof wants (several texts in one). -/
import Derived.Test.YtkgaeamdhhceiaaGreatDoorSrG25
namespace Go.Proofs.YtkgaeamdhhceiaaGreatDoor
open Go.RowKit
set_option linter.unusedVariables false
set_option linter.unusedSimpArgs false
set_option maxRecDepth 20000
set_option maxHeartbeats 20000000
def jK:Prop:=∀ (g:Rg) (which:Int) (xs:List Int),RgB g→Bytes8 xs→((Jp g which xs).b=true→RgB (Jp g which xs).g)∧((Jp g which xs).b=false→Wd16 (Jp g which xs).c.addr∧B8 (Jp g which xs).c.data)
structure OkS (x:Sx):Prop where
 got:Bytes8 x.got
 m:QL x.m
 p:Bytes8 x.p
structure OkW (w:Wd):Prop where
 g:RgB w.g
 m:QL w.m
 p:Bytes8 w.p
theorem OkW.beg {w:Wd}(h:OkW w):OkS (Qz w):=⟨fun x hx=>(by cases hx),h.m,h.p⟩
theorem QRD {p:List Int}(h:Bytes8 p):B8 (p.headD 255):=by
 cases p with
 | nil=>exact⟨by decide,by decide⟩
 | cons b r=>exact h.head
theorem QIf {x:Sx}(h:OkS x)(c:Cy){v:Int}(hv:B8 v):B8 (ZD c v x.m x.p):=by
 unfold ZD
 split
 · exact QSj h.m _
 split
 · exact QRD h.p
 split
 · exact hv
 · exact B8.zero
theorem Bytes8.snoc {xs:List Int}(h:Bytes8 xs){b:Int}(hb:B8 b):Bytes8 (xs++[b]):=fun x hx=>by
 rcases List.mem_append.1 hx with e|e
 · exact h x e
 · rw[List.mem_singleton.1 e];exact hb
theorem Bytes8.tl {p:List Int}(h:Bytes8 p):Bytes8 p.tail:=fun x hx=>h x (List.mem_of_mem_tail hx)
theorem OkS.next {x:Sx}(h:OkS x){c:Cy}(hc:Wd16 c.addr∧B8 c.data){v:Int}(hv:B8 v):OkS (QT c v x):=by
 refine⟨h.got.snoc (QIf h c hv),?_,?_⟩
 · show QL (X3 c x.m)
   unfold X3
   split
   · exact QCR h.m fun d hd=>by
      rw[List.mem_singleton.1 hd]
      exact⟨hc.1.1,hc.1.2,hc.2.1,hc.2.2⟩
   · exact h.m
 · show Bytes8 (Zy c x.p)
   unfold Zy
   split
   · exact h.p.tl
   · exact h.p
theorem OkS.go (hA:jK){g:Rg}(hg:RgB g)(which:Int){v:Int}(hv:B8 v):∀ (k:Nat) {x:Sx},OkS x→OkS (goS g which v k x)
 | 0,x,h=>h
 | k+1,x,h=>by
   unfold goS
   split
   · exact h
   · rename_i hb
     exact OkS.go hA hg which hv k (h.next ((hA g which x.got hg h.got).2 (by simpa using hb)) hv)
theorem OkW.x (hA:jK){w:Wd}(h:OkW w)(which:Int){v:Int}(hv:B8 v):OkS (Jj w which v):=h.beg.go hA h.g which hv 200
theorem OkW.pstepW (hA:jK){w:Wd}(h:OkW w)(which:Int){v:Int}(hv:B8 v):OkW (Jk w which v):=by
 have k:=h.x hA which hv
 refine⟨?_,k.m,k.p⟩
 show RgB (qn w.g which _)
 unfold qn
 split
 · rename_i hb
   exact (hA _ _ _ h.g k.got).1 hb
 · exact h.g
theorem OkW.run (hA:jK):∀ (k:Nat) {w:Wd},OkW w→OkW (X1 k w).1
 | 0,w,h=>h
 | k+1,w,h=>OkW.run hA k (h.pstepW hA 0 B8.zero)
theorem QOr (c:Int)(s:Ms):(QUG c s).r.pc=(s.r.pc+1)%65536:=rfl
theorem QQP (g:Rg):(ms1 g).r.pc=(g.pc+1)%65536:=rfl
theorem QJp:∀ (xs:List Int) (c:Int) (s:Ms),(c=221∨c=253)→(∀ x∈xs,x=221∨x=253)→Wd16 s.r.pc→XV xs c s=.error ⟨1,(s.r.pc+(xs.length:Int))%65536,0,4⟩
 | [],c,s,hc,_,hp=>by
   rw[QKL hc]
   have:=hp.1
   have:=hp.2
   simp only[List.length_nil]
   rw[show (s.r.pc+((0:Nat):Int))%65536=s.r.pc by omega]
 | b :: bs,c,s,hc,h,hp=>by
   rw[QDZ hc,QJp bs b (QUG c s) (h b List.mem_cons_self) (fun x hx=>h x (List.mem_cons_of_mem _ hx)) (by rw[QOr];exact Wd16.mod _),QOr]
   simp only[List.length_cons]
   rw[show ((s.r.pc+1)%65536+(bs.length:Int))%65536=(s.r.pc+((bs.length+1:Nat):Int))%65536 by omega]
theorem QMd {g:Rg}(hg:RgB g){which:Int}(h1:which≠1)(h2:which≠2){xs:List Int}(hx:∀ x∈xs,x=221∨x=253)(hb:(Jp g which xs).b=false):(Jp g which xs).c=⟨1,(g.pc+(xs.length:Int))%65536,0,4⟩:=by
 have e:Jp g which xs=ofX (XG g xs):=by unfold Jp;rw[if_neg h1,if_neg h2]
 rw[e] at hb ⊢
 cases xs with
 | nil =>
   rw[QGH]
   have:=hg.pc.1
   have:=hg.pc.2
   show (⟨1,g.pc,0,4⟩:Cy)=_
   simp only[List.length_nil]
   rw[show (g.pc+((0:Nat):Int))%65536=g.pc by omega]
 | cons b bs =>
   cases hh:g.halted with
   | true=>rw[QB0 hh] at hb;cases hb
   | false =>
     rw[QBc hh,QJp bs b (ms1 g) (hx b List.mem_cons_self) (fun x hx'=>hx x (List.mem_cons_of_mem _ hx')) (by rw[QQP];exact Wd16.mod _),QQP]
     show (⟨1,_,0,4⟩:Cy)=_
     simp only[List.length_cons]
     rw[show ((g.pc+1)%65536+(bs.length:Int))%65536=(g.pc+((bs.length+1:Nat):Int))%65536 by omega]
theorem QPU {g:Rg} {which:Int}(h1:which≠1)(h2:which≠2){xs:List Int}(hb:(Jp g which xs).b=false):xs.length < lead xs+9:=by
 have e:Jp g which xs=ofX (XG g xs):=by unfold Jp;rw[if_neg h1,if_neg h2]
 rw[e] at hb
 refine Nat.lt_of_not_le fun h=>?_
 obtain⟨a,ys,hX⟩:=QNc g xs h
 rw[hX] at hb
 cases hb
theorem QF5 {l:List Cy} {g:Rg} {n:Nat}(h:l.length≤n):(Qg l g n).b=true:=by
 unfold Qg
 rw[if_neg (by omega)]
 rfl
theorem QOJ {g:Rg} {which:Int}(h:which=1∨which=2){xs:List Int}(hb:(Jp g which xs).b=false):xs.length < 9:=by
 refine Nat.lt_of_not_le fun hl=>?_
 rcases h with rfl|rfl
 · cases xs with
   | nil=>simp at hl
   | cons v ys =>
     simp only[List.length_cons] at hl
     have:(Jp g 1 (v :: ys)).b=true:=QF5 (by simp[Qx];omega)
     rw[this] at hb;cases hb
 · cases xs with
   | nil=>simp at hl
   | cons v ys =>
     simp only[List.length_cons] at hl
     have e:Jp g 2 (v :: ys)=QBJ g v ys:=rfl
     rw[e] at hb
     unfold QBJ at hb
     split at hb
     · split at hb
       · cases hb
       · rename_i hp
         have hv:¬(v=221∨v=253):=by
          unfold Zv at hp
          simp only[Bool.or_eq_true,beq_iff_eq] at hp
          omega
         obtain⟨a,zs,hX⟩:=QHO ys v (ms0 (jp g false false)).noLate (by rw[QC0 _ _ ((QGx v).2 hv)];omega)
         unfold X4 at hb
         rw[hX] at hb
         cases hb
     · split at hb
       · rw[QF5 (by simp[Qx];omega)] at hb;cases hb
       · rw[QF5 (by simp[Qx,ZO];omega)] at hb;cases hb
theorem QHa:∀ (l:List Int) (m:List (Int×Int)),l.Nodup→(∀ a∈l,∃ c∈m,c.1=a)→l.length≤m.length
 | [],m,_,_=>Nat.zero_le _
 | a :: l,m,hn,h=>by
   obtain⟨c,hc,ha⟩:=h a List.mem_cons_self
   have hn':=List.nodup_cons.1 hn
   have ih:=QHa l (m.erase c) hn'.2 fun b hb=>by
    obtain⟨d,hd,e⟩:=h b (List.mem_cons_of_mem _ hb)
    refine⟨d,(List.mem_erase_of_ne ?_).2 hd,e⟩
    rintro rfl
    exact hn'.1 (by rw[←ha,e];exact hb)
   rw[List.length_erase_of_mem hc] at ih
   have:0 < m.length:=List.length_pos_of_mem hc
   simp only[List.length_cons]
   omega
theorem QJn (pc:Int)(n:Nat)(h:n≤65536):((List.range n).map fun (j:Nat)=>(pc+(j:Int))%65536).Nodup:=by
 unfold List.Nodup
 rw[List.pairwise_map]
 refine List.Pairwise.imp_of_mem ?_ List.pairwise_lt_range
 intro a b ha hb hab
 have:=List.mem_range.1 ha
 have:=List.mem_range.1 hb
 omega
section
variable {w:Wd} {which v:Int} {N:Nat}
theorem QFT (hg:RgB w.g)(h1:which≠1)(h2:which≠2)(hN:∀ j,j < N+1→(Jp w.g which (itS w.g which v j (Qz w)).got).b=false) :
 ∀ j,j≤N+1→j≤lead (itS w.g which v N (Qz w)).got+1→(itS w.g which v j (Qz w)).m=w.m
 | 0,_,_=>rfl
 | j+1,hj,hl=>by
   have ih:=QFT hg h1 h2 hN j (by omega) (by omega)
   obtain⟨r,hr⟩:=QEi w.g which v (Qz w) N j (by omega)
   have hlen:=zW w.g which v (Qz w) j
   have hall:∀ x∈(itS w.g which v j (Qz w)).got,x=221∨x=253:=fun x hx=>by
    obtain⟨i,hi⟩:=List.getElem?_of_mem hx
    have hil:i < j:=by
     have:=(List.getElem?_eq_some_iff.1 hi).1
     rw[hlen] at this
     simpa [Qz] using this
    have:=QF9 (itS w.g which v N (Qz w)).got i (by omega)
    rw[QBe] at this
    have e:gb (itS w.g which v N (Qz w)).got i=x:=by
     unfold gb
     rw[hr,List.getD_eq_getElem?_getD,List.getElem?_append_left (by rw[hlen];simp[Qz];omega),hi]
     rfl
    rwa [e] at this
   have hc:=QMd hg h1 h2 hall (hN j (by omega))
   show X3 _ (itS w.g which v j (Qz w)).m=w.m
   rw[hc,ih]
   rfl
theorem QLZ (hg:RgB w.g)(h1:which≠1)(h2:which≠2)(hN:∀ j,j < N+1→(Jp w.g which (itS w.g which v j (Qz w)).got).b=false):lead (itS w.g which v N (Qz w)).got≤w.m.length∨65536 < N:=by
 by_cases hbig:65536 < N
 · exact .inr hbig
 refine .inl ?_
 obtain⟨L,hL⟩:∃ L,L=lead (itS w.g which v N (Qz w)).got:=⟨_,rfl⟩
 have hLN:L≤N:=by
  have:=QR9 (itS w.g which v N (Qz w)).got
  rw[zW] at this
  rw[hL]
  simpa [Qz] using this
 rw[←hL]
 have key:∀ a∈((List.range L).map fun (j:Nat)=>(w.g.pc+(j:Int))%65536),∃ c∈w.m,c.1=a:=fun a ha=>by
  obtain⟨j,hj,rfl⟩:=List.mem_map.1 ha
  have hj:=List.mem_range.1 hj
  refine QC1 w.m _ ?_
  have hm:=QFT hg h1 h2 hN j (by omega) (by omega)
  obtain⟨r,hr⟩:=QEi w.g which v (Qz w) N j (by omega)
  obtain⟨r2,hr2⟩:=QEi w.g which v (Qz w) N (j+1) (by omega)
  have hlen:=zW w.g which v (Qz w) j
  have hall:∀ x∈(itS w.g which v j (Qz w)).got,x=221∨x=253:=fun x hx=>by
   obtain⟨i,hi⟩:=List.getElem?_of_mem hx
   have hil:i < j:=by
    have:=(List.getElem?_eq_some_iff.1 hi).1
    rw[hlen] at this
    simpa [Qz] using this
   have:=QF9 (itS w.g which v N (Qz w)).got i (by omega)
   rw[QBe] at this
   have e:gb (itS w.g which v N (Qz w)).got i=x:=by
    unfold gb
    rw[hr,List.getD_eq_getElem?_getD,List.getElem?_append_left (by rw[hlen];simp[Qz];omega),hi]
    rfl
   rwa [e] at this
  have hc:=QMd hg h1 h2 hall (hN j (by omega))
  have hlen':(itS w.g which v j (Qz w)).got.length=j:=by rw[hlen];simp[Qz]
  rw[hlen'] at hc
  have hgj:gb (itS w.g which v N (Qz w)).got j=Ql w.m ((w.g.pc+(j:Int))%65536):=by
   unfold gb
   rw[hr2,List.getD_eq_getElem?_getD,List.getElem?_append_left (by rw[zW];simp[Qz])]
   simp only[itS,QT]
   rw[List.getElem?_append_right (by omega),hlen',Nat.sub_self,hc,hm]
   rfl
  have:=QF9 (itS w.g which v N (Qz w)).got j (by omega)
  rw[QBe,hgj] at this
  omega
 have:=QHa _ w.m (QJn w.g.pc L (by omega)) key
 simpa using this
end
theorem QJP {w:Wd}(hg:RgB w.g)(which v:Int)(h:w.m.length < 191):(Jj w which v).got.length < 200∧(Jp w.g which (Jj w which v).got).b=true∧(Jj w which v).m.length≤w.m.length+9:=by
 obtain⟨N,h1,h2,h3,h4⟩:=QE8 w which v
 have hlen:(itS w.g which v N (Qz w)).got.length=N:=by rw[zW];simp[Qz]
 rw[h2,hlen]
 by_cases hw:which=1∨which=2
 · have hN:N≤9:=by
    cases N with
    | zero=>omega
    | succ N =>
      have:=QOJ hw (h3 N (by omega))
      rw[zW] at this
      simp[Qz] at this
      omega
   refine⟨by omega,h4 (by omega),?_⟩
   have:=QCk w.g which v (Qz w) 0 N
   rw[Nat.zero_add] at this
   simp only[itS,Qz] at this ⊢
   omega
 · have w1:which≠1:=fun e=>hw (.inl e)
   have w2:which≠2:=fun e=>hw (.inr e)
   cases N with
   | zero=>exact⟨by omega,h4 (by omega),by simp[itS,Qz]⟩
   | succ N =>
     have hl:=QPU w1 w2 (h3 N (by omega))
     rw[zW] at hl
     simp only[Qz,List.length_nil] at hl
     have hc:=QLZ hg w1 w2 h3
     rcases hc with hc|hc
     · simp only[Qz] at hc
       refine⟨by omega,h4 (by omega),?_⟩
       have hm:=QFT hg w1 w2 h3 (min (N+1) (lead (itS w.g which v N (Qz w)).got+1)) (by omega) (by omega)
       have hk:=QCk w.g which v (Qz w) (min (N+1) (lead (itS w.g which v N (Qz w)).got+1)) (N+1-min (N+1) (lead (itS w.g which v N (Qz w)).got+1))
       rw[show min (N+1) (lead (itS w.g which v N (Qz w)).got+1)+(N+1-min (N+1) (lead (itS w.g which v N (Qz w)).got+1))=N+1 by omega,hm] at hk
       simp only[Qz] at hk ⊢
       omega
     · omega
theorem QGs {w:Wd}(hg:RgB w.g)(which v:Int)(h:w.m.length < 191):Jk w which v=QG8 w which v:=by
 obtain⟨h1,h2,-⟩:=QJP hg which v h
 unfold Jk QG8 qn QLR
 rw[if_pos h1,if_pos h2]
theorem QCw (c:Cy)(b:Int):(Zp c b).kind=c.kind:=by unfold Zp;split<;>rfl
theorem QNp (w:Wd)(which v:Int):(Jj w which v).l.length≤200:=by
 have key:∀ (k:Nat) (x:Sx),(goS w.g which v k x).l.length≤x.l.length+k:=by
  intro k
  induction k with
  | zero=>intro x;exact Nat.le_refl _
  | succ k ih =>
    intro x
    unfold goS
    split
    · omega
    · have:=ih (QT (Jp w.g which x.got).c v x)
      have e:(QT (Jp w.g which x.got).c v x).l.length≤x.l.length+1:=by
       show (QCA _ _ x.l).length≤_
       unfold QCA
       split
       · omega
       · simp
      omega
 have:=key 200 (Qz w)
 rw[show (Qz w).l.length+200=200 from rfl] at this
 exact this
def CellsIn (w:World)(B:Nat)(A:Option Addr)(l:List (Int×Int)):Prop :=
 ∀ (j:Nat) (c:Int×Int),l[j]?=some c→∃ p,A=some p∧p.block < B∧w.cell? (p.add (j*2))=some (.int .u16 c.1)∧w.cell? ((p.add (j*2)).add 1)=some (.int .u8 c.2)
theorem CellsIn.nil (w:World)(B:Nat)(A:Option Addr):CellsIn w B A []:=fun j c h=>by simp at h
theorem CellsIn.keep {w w':World} {B:Nat} {A:Option Addr} {l:List (Int×Int)}(h:CellsIn w B A l)(k:∀ b,b < B→w'.heap[b]?=w.heap[b]?):CellsIn w' B A l:=fun j c hc=>by
 obtain⟨p,e,hb,h1,h2⟩:=h j c hc
 exact⟨p,e,hb,(World.cell?_of_block (by rw[add_block];exact k _ hb)).trans h1,(World.cell?_of_block (by rw[add_block,add_block];exact k _ hb)).trans h2⟩
theorem CellsIn.more {w:World} {B B':Nat} {A:Option Addr} {l:List (Int×Int)}(h:CellsIn w B A l)(k:B≤B'):CellsIn w B' A l:=fun j c hc=>by
 obtain⟨p,e,hb,h1,h2⟩:=h j c hc
 exact⟨p,e,Nat.lt_of_lt_of_le hb k,h1,h2⟩
theorem CellsIn.below {w w':World} {B:Nat} {A:Option Addr} {l:List (Int×Int)}(h:CellsIn w B A l)(k:Below B w w'):CellsIn w' B A l:=h.keep fun b hb=>k.block b hb
theorem CellsIn.at_ {w:World} {B:Nat} {A:Option Addr} {l:List (Int×Int)}(h:CellsIn w B A l){k:Nat}(hk:k < l.length):∃ p,A=some p∧p.block < B∧w.cell? (p.add (k*2))=some (.int .u16 l[k].1)∧w.cell? ((p.add (k*2)).add 1)=some (.int .u8 l[k].2):=h k _ (List.getElem?_eq_getElem hk)
def cvs:List (Int×Int)→List Value
 | []=>[]
 | c :: r=>.int .u16 c.1 :: .int .u8 c.2 :: cvs r
theorem zC:∀ l:List (Int×Int),(cvs l).length=l.length*2
 | []=>rfl
 | c :: r=>by simp only[cvs,List.length_cons,zC r];omega
theorem QAn:∀ l m:List (Int×Int),cvs l++cvs m=cvs (l++m)
 | [],_=>rfl
 | c :: r,m=>by simp only[cvs,List.cons_append,QAn r m]
theorem QC9:∀ (l:List (Int×Int)) (j:Nat),(cvs l)[j*2]?=l[j]?.map fun c=>.int .u16 c.1
 | [],j=>by simp[cvs]
 | c :: r,0=>rfl
 | c :: r,j+1=>by
   rw[show (j+1)*2=j*2+1+1 by omega]
   simp only[cvs,List.getElem?_cons_succ]
   exact QC9 r j
theorem QEc:∀ (l:List (Int×Int)) (j:Nat),(cvs l)[j*2+1]?=l[j]?.map fun c=>.int .u8 c.2
 | [],j=>by simp[cvs]
 | c :: r,0=>rfl
 | c :: r,j+1=>by
   rw[show (j+1)*2+1=j*2+1+1+1 by omega]
   simp only[cvs,List.getElem?_cons_succ]
   exact QEc r j
theorem QCY:∀ l:List (Int×Int),∀ u∈cvs l,u.oneCell'=true
 | [],_,h=>by cases h
 | c :: r,u,h=>by
   simp only[cvs,List.mem_cons] at h
   rcases h with rfl|rfl|h
   · rfl
   · rfl
   · exact QCY r u h
theorem CellsIn.values {w:World} {B:Nat} {p:Addr} {l:List (Int×Int)}(h:CellsIn w B (some p) l):∀ j u,(cvs l)[j]?=some u→w.cell? (p.add j)=some u:=fun j u hu=>by
 have hd:j=j / 2*2∨j=j / 2*2+1:=by omega
 rcases hd with e|e
 · rw[e,QC9] at hu
   obtain⟨c,hc,rfl⟩:=Option.map_eq_some_iff.1 hu
   obtain⟨q,eq,-,h1,-⟩:=h _ c hc
   cases eq
   rw[e];exact h1
 · rw[e,QEc] at hu
   obtain⟨c,hc,rfl⟩:=Option.map_eq_some_iff.1 hu
   obtain⟨q,eq,-,-,h2⟩:=h _ c hc
   cases eq
   rw[e,←QBh];exact h2
theorem CellsIn.of_values {w:World} {B:Nat} {p:Addr} {l:List (Int×Int)}(hb:p.block < B)(h:∀ j u,(cvs l)[j]?=some u→w.cell? (p.add j)=some u):CellsIn w B (some p) l:=fun j c hc =>
 ⟨p,rfl,hb,h _ _ (by rw[QC9,hc];rfl),by rw[QBh];exact h _ _ (by rw[QEc,hc];rfl)⟩
theorem QGt:(Tryz.prog.info? 67).map (fun i=>(i.zero,i.size,i.bytes))=some (some (.agg #[.int .u16 0,.int .u8 0]),2,4):=by kernel_rfl
theorem Qq {W:World} {b n:Nat} {v:Value} {l:List (Int×Int)}(h:W.ownsRow b 67 2 v n (cvs l)):∃ A c,v=.slice A n c∧n≤c∧CellsIn W W.heap.size A l∧(A=none→c=0):=by
 rcases h.2 with ⟨e1,e2⟩|⟨g,c,cur,e1,-,hh,hle,-⟩
 · subst e1 e2
   have h1:=h.1
   rw[zC] at h1
   obtain rfl:l=[]:=List.eq_nil_of_length_eq_zero (by omega)
   exact⟨none,0,rfl,Nat.le_refl _,CellsIn.nil _ _ _,fun _=>rfl⟩
 · subst e1
   exact⟨_,c,rfl,hle,CellsIn.of_values (Array.getElem?_eq_some_iff.1 hh).1 (h.cells (g:=g) rfl),fun e=>by cases e⟩
theorem QAu {w:World} {b c:Nat} {e:TypeId} {s:Nat} {v:Value} {n:Nat} {xs:List Value}(h:w.ownsRow c e s v n xs)(hbc:b≤c):w.ownsRow b e s v n xs:=by
 obtain⟨h1,h2⟩:=h
 refine⟨h1,?_⟩
 rcases h2 with h2|⟨g,cap,cur,e,hb,rest⟩
 · exact .inl h2
 · exact .inr ⟨g,cap,cur,e,Nat.le_trans hbc hb,rest⟩
theorem QB9 {ops:Array Oper} {rest:List Oper} {o:Oper} {a:Act} {w:World} {Q:Exit→Act→World→Prop}(hgd:o.guard=none)(s x:Operand)
 (ho:o.op=.call { callee:=.builtin .append,args:=#[s,x],argTypes:=#[25,25] })
 (base B:Nat)(hbase:base≤w.heap.size)
 (v:Value)(n:Nat)(l:List (Int×Int))(hs:a.eval s=v)(hown:w.ownsRow base 67 2 v n (cvs l))
 (A:Option Addr)(c:Nat)(ys:List (Int×Int))(hx:a.eval x=.slice A ys.length c)(hy:CellsIn w B A ys)(hn:A=none→c=0)(hmax:n+ys.length≤35184372088832)
 (h:∀ v' w',w'.ownsRow base 67 2 v' (n+ys.length) (cvs (l++ys))→w.grownBy w' v.ownBlock→wpList Tryz.prog ops Q rest (a.put o.dst v') w') :
 wpList Tryz.prog ops Q (o :: rest) a w:=by
 obtain⟨i0,hi0,hz0,hz1,hz2⟩:=info_parts QGt
 rcases A with _|p
 · obtain rfl:=hn rfl
   have hy0:ys=[]:=by
    cases ys with
    | nil=>rfl
    | cons y ys' =>
      obtain⟨ad,e,-⟩:=hy 0 y rfl
      cases e
   subst hy0
   refine wpList_append_own_none hgd s x _ ho base 67 i0 2 Tryz.underlying25 hi0 v n (cvs l) hs hown hx ?_
   exact h v w (by simpa using hown) ⟨rfl,rfl,rfl,Nat.le_refl _,fun _ _ _=>rfl⟩
 · refine wpList_append_own_at _ hgd s x _ ho base 67 i0 _ 2 4 Tryz.underlying25 hi0 hz0 hz1 hz2 rfl (by omega) v n (cvs l) hs hown p ys.length c (cvs ys) hx (zC ys) hy.values (QCY ys) (by simp only[maxLen];omega) (by omega) hbase ?_
   intro v' w' own' hg _ _
   rw[QAn] at own'
   exact h v' w' own' hg
section
variable {ops:Array Oper} {Q:Exit→Act→World→Prop} {base:List Value} {rest:List Oper} {l:Jy} {w:World} {o:Oper}
theorem qAc (s x:Operand)(bs B:Nat)(v:Value)(n:Nat)(got:List (Int×Int))(A:Option Addr)(c:Nat)(ys:List (Int×Int))(hbs:bs≤w.heap.size)
 (hown:w.ownsRow bs 67 2 v n (cvs got))(hy:CellsIn w B A ys)(hn:A=none→c=0)(hmax:n+ys.length≤35184372088832)
 (h:∀ v' w',w'.ownsRow bs 67 2 v' (n+ys.length) (cvs (got++ys))→w.grownBy w' v.ownBlock→WO Tryz.prog ops Q base rest (Q7 o.dst v' l) w')
 (ho:o.op=.call { callee:=.builtin .append,args:=#[s,x],argTypes:=#[25,25] }:=by exact rfl)(hg:o.guard=none:=by exact rfl)(hs:evO base l s=v:=by kernel_rfl)(hx:evO base l x=.slice A ys.length c:=by kernel_rfl)(hd:Q9 o.dst base.length=true:=by kernel_rfl):WO Tryz.prog ops Q base (o :: rest) l w :=
 ⟨fun hi=>⟨QB9 hg s x ho bs B hbs v n got (by rw[J9 hi];exact hs) hown A c ys (by rw[J9 hi];exact hx) hy hn hmax fun v' w' h1 h2=>by rw[QZ];exact ((h v' w' h1 h2).h (ZJ hd hi)).h⟩⟩
theorem QKR (p:Addr)(n c k:Nat)(h:k < n)(w:World):(Instr.indexAt 25 (.slice (some p) n c) (.int .i64 (k:Int))).run Tryz.prog w=.ok (.pointer (some (p.add (k*2)))) w:=by
 have h1:(k:Int) < n:=by omega
 simp[go_sem,h]
theorem QPL (p:Addr)(w:World):(Instr.fieldAt 67 (.pointer (some p)) 0).run Tryz.prog w=.ok (.pointer (some (p.add 0))) w:=by simp[go_sem]
theorem QVv (p:Addr)(w:World):(Instr.fieldAt 67 (.pointer (some p)) 1).run Tryz.prog w=.ok (.pointer (some (p.add 1))) w:=by simp[go_sem]
theorem QLw {w:World} {p:Addr} {a b:Int}(h1:w.cell? p=some (.int .u16 a))(h2:w.cell? (p.add 1)=some (.int .u8 b)):(Instr.loadAt 67 (.pointer (some p))).run Tryz.prog w=.ok (.agg #[.int .u16 a,.int .u8 b]) w:=by
 have h3:w.cell? { block:=p.block,off:=p.off+1 }=some (.int .u8 b):=by simpa [Addr.add] using h2
 simp[go_sem,h1,h3]
end
theorem CellsIn.ld0 {w:World} {B:Nat} {p:Addr} {l:List (Int×Int)}(h:CellsIn w B (some p) l){k:Nat}(hk:k < l.length):(Instr.loadAt 22 (.pointer (some ((p.add (k*2)).add 0)))).run Tryz.prog w=.ok (.int .u16 l[k].1) w:=by
 obtain⟨q,e,-,h1,-⟩:=h.at_ hk
 cases e
 rw[add_zero']
 exact ldA h1
theorem CellsIn.ld1 {w:World} {B:Nat} {p:Addr} {l:List (Int×Int)}(h:CellsIn w B (some p) l){k:Nat}(hk:k < l.length):(Instr.loadAt 5 (.pointer (some ((p.add (k*2)).add 1)))).run Tryz.prog w=.ok (.int .u8 l[k].2) w:=by
 obtain⟨q,e,-,-,h2⟩:=h.at_ hk
 cases e
 exact ldD h2
theorem CellsIn.ldW {w:World} {B:Nat} {p:Addr} {l:List (Int×Int)}(h:CellsIn w B (some p) l){k:Nat}(hk:k < l.length):(Instr.loadAt 67 (.pointer (some (p.add (k*2))))).run Tryz.prog w=.ok (.agg #[.int .u16 l[k].1,.int .u8 l[k].2]) w:=by
 obtain⟨q,e,-,h1,h2⟩:=h.at_ hk
 cases e
 exact QLw h1 h2
def MapAt (w:World)(b n:Nat)(m:List (Int×Int)):Prop:=w.ownsMap Tryz.prog 22 (plainElem (H:=Unit) Tryz.prog 5) b n (dm m)
theorem QEh:Maps.Keyed Tryz.prog 22:=Maps.int_keyed Tryz.underlying22
theorem wf16 {a:Int}(h:0≤a∧a≤65535):(Lit.int .u16 a).wf=true:=by simp[Lit.wf,IntKind.min,IntKind.max,IntKind.bits,IntKind.signed];omega
theorem wf8 {a:Int}(h:0≤a∧a≤255):(Lit.int .u8 a).wf=true:=by simp[Lit.wf,IntKind.min,IntKind.max,IntKind.bits,IntKind.signed];omega
theorem QR5 {a:Int}(h:(Lit.int .u16 a).wf=true):0≤a∧a≤65535:=by simp[Lit.wf,IntKind.min,IntKind.max,IntKind.bits,IntKind.signed] at h;omega
theorem QVJ {a:Int}(h:(Lit.int .u8 a).wf=true):0≤a∧a≤255:=by simp[Lit.wf,IntKind.min,IntKind.max,IntKind.bits,IntKind.signed] at h;omega
theorem QTf {a:Int}(h:0≤a∧a≤65535):keyOf Tryz.prog 22 (.int .u16 a)=some (.int .u16 a):=Maps.keyOf_int_mk Tryz.underlying22 (wf16 h)
theorem QUf:Tryz.prog.underlying 84=some (.map 22 5):=Tryz.underlying84
theorem MapAt.made (w:World):MapAt (w.alloc (.map #[] 0)) w.heap.size 0 []:=World.ownsMap_made w _ _ _
theorem MapAt.lt {w:World} {b n:Nat} {m:List (Int×Int)}(h:MapAt w b n m):b < w.heap.size:=World.ownsMap.lt h
theorem MapAt.grown {w w':World} {b n:Nat} {m:List (Int×Int)} {row:Option Nat}(h:MapAt w b n m)(k:w.grownBy w' row)(hb:some b≠row):MapAt w' b n m:=World.ownsMap.kept h k hb
theorem MapAt.below {w w':World} {b n:Nat} {m:List (Int×Int)}(h:MapAt w b n m)(k:Below w.heap.size w w'):MapAt w' b n m :=
 h.grown (row:=none) ⟨k.os,k.tape,k.output,k.size,fun i hi _=>k.block i hi⟩ (by simp)
theorem MapAt.size {w:World} {b n:Nat} {m:List (Int×Int)}(h:MapAt w b n m):m.length≤n:=by
 have:=World.ownsMap.size_le h
 rwa [QMk] at this
theorem MapAt.store {w:World} {b n:Nat} {m:List (Int×Int)}(h:MapAt w b n m)(hn:n < maxLen){a v:Int}(ha:0≤a∧a≤65535)(hv:0≤v∧v≤255) :
 ∃ w',(Instr.mapUpdate 84 (.map (some b)) (.int .u16 a) (.int .u8 v)).run Tryz.prog w=.ok () w'∧MapAt w' b (n+1) (QJ7 a v m)∧w.grownBy w' (some b):=by
 obtain⟨w',h1,h2,h3⟩:=World.ownsMap.update h QEh QUf hn (QTf ha) (plainElem_int Tryz.underlying5 (wf8 hv))
 rw[QUI] at h2
 exact⟨w',h1,h2,h3⟩
theorem MapAt.drop {w:World} {b n:Nat} {m:List (Int×Int)}(h:MapAt w b n m){a:Int}(ha:0≤a∧a≤65535)(ty:TypeId) :
 ∃ w',(Builtin.delete_ #[84,22] ty #[.map (some b),.int .u16 a]).run Tryz.prog w=.ok (.tuple #[]) w'∧MapAt w' b n (QFz a m)∧w.grownBy w' (some b):=by
 obtain⟨w',h1,h2,h3⟩:=World.ownsMap.drop h QEh QUf (QTf ha) ty
 rw[QU1] at h2
 exact⟨w',h1,h2,h3.grown⟩
def RangeAt (w:World)(b r n:Nat)(m:List (Int×Int))(left:Int→Bool)(cnt:Nat):Prop:=∃ lf,(∀ x,lf (.int .u16 x)=left x)∧w.ranges Tryz.prog 22 (plainElem (H:=Unit) Tryz.prog 5) b r n (dm m) lf cnt
theorem RangeAt.lt {w:World} {b r n:Nat} {m:List (Int×Int)} {left:Int→Bool} {cnt:Nat}(h:RangeAt w b r n m left cnt):r < w.heap.size:=by obtain⟨lf,-,h⟩:=h;exact h.lt
theorem RangeAt.map {w:World} {b r n:Nat} {m:List (Int×Int)} {left:Int→Bool} {cnt:Nat}(h:RangeAt w b r n m left cnt):MapAt w b n m:=by obtain⟨lf,-,h⟩:=h;exact h.owns
theorem RangeAt.grown {w w':World} {b r n:Nat} {m:List (Int×Int)} {left:Int→Bool} {cnt:Nat} {row:Option Nat}(h:RangeAt w b r n m left cnt)(k:w.grownBy w' row)(hb:some b≠row)(hr:some r≠row):RangeAt w' b r n m left cnt:=by
 obtain⟨lf,h1,h2⟩:=h
 exact⟨lf,h1,h2.kept k hb hr⟩
theorem RangeAt.below {w w':World} {b r n:Nat} {m:List (Int×Int)} {left:Int→Bool} {cnt:Nat}(h:RangeAt w b r n m left cnt)(k:Below w.heap.size w w'):RangeAt w' b r n m left cnt :=
 h.grown (row:=none) ⟨k.os,k.tape,k.output,k.size,fun i hi _=>k.block i hi⟩ (by simp) (by simp)
theorem MapAt.range {w:World} {b n:Nat} {m:List (Int×Int)}(h:MapAt w b n m) :
 ∃ w',(Instr.range 84 (.map (some b))).run Tryz.prog w=.ok (.pointer (some ⟨w.heap.size,0,none⟩)) w'∧RangeAt w' b w.heap.size n m (fun x=>m.any fun p=>decide (p.1=x)) m.length∧Below w.heap.size w w':=by
 obtain⟨w',h1,h2,h3,h4⟩:=World.ownsMap.range h QEh QUf
 rw[QMk] at h2
 exact⟨w',h1,⟨_,fun x=>QUO m x,h2⟩,⟨h3.os,h3.tape,h3.output,h3.size,fun i hi=>h3.block i hi (by simp)⟩⟩
theorem RangeAt.next {w:World} {b r n:Nat} {m:List (Int×Int)} {left:Int→Bool} {cnt:Nat}(h:RangeAt w b r n m left cnt)(ty:TypeId) :
 ((∀ x,left x=false)∧(Instr.next (.pointer (some ⟨r,0,none⟩)) false ty).run Tryz.prog w=.ok (.tuple #[.bool false]) w) ∨
 ∃ x c w' cnt',(0≤x∧x≤65535)∧(0≤c∧c≤255)∧left x=true∧(x,c)∈m∧(Instr.next (.pointer (some ⟨r,0,none⟩)) false ty).run Tryz.prog w=.ok (.tuple #[.bool true,.int .u16 x,.int .u8 c]) w' ∧
  RangeAt w' b r n m (fun z=>left z&&!decide (z=x)) cnt'∧cnt' < cnt∧w.grownBy w' (some r)∧(Instr.entry (.pointer (some ⟨r,0,none⟩))).run Tryz.prog w'=.ok (.tuple #[.int .u16 x,.int .u8 c]) w':=by
 obtain⟨lf,hlf,h⟩:=h
 rcases h.next QEh ty with ⟨-,h2,h3⟩|⟨key,v,kl,y,w',cnt',hkey,hlk,hv,hat,hrun,hrg,hlt,hgr,hsz,hen⟩
 · exact .inl ⟨fun x=>by rw[←hlf];exact h2 _,h3⟩
 · obtain⟨x,rfl,rfl,hwx⟩:=Maps.keyOf_int_inv Tryz.underlying22 hkey
   obtain⟨c,rfl,rfl,hwc⟩:=plainElem_int_inv Tryz.underlying5 hv
   exact .inr ⟨x,c,w',cnt',QR5 hwx,QVJ hwc,by rw[←hlf];exact hlk,QT2 hat,hrun,⟨_,fun z=>by show (lf _&&!(Lit.int .u16 z).sameKey (.int .u16 x))=(left z&&!decide (z=x));rw[hlf,QIB],hrg⟩,hlt,hgr,hen⟩
theorem QLU (w:World)(b n:Nat)(m:List (Int×Int))(a v:Int)(ha:0≤a∧a≤65535)(hv:0≤v∧v≤255)(hM:MapAt w b n m)(hn:n < maxLen) :
 Calls Tryz.prog 63 #[.map (some b),.int .u16 a,.int .u8 v] w fun e w'=>e=.returned (.tuple #[])∧(MapAt w' b (n+1) (jW m (a,v))∧w.grownBy w' (some b)):=by
 go_enter Tryz.func63,Tryz.ntmps63
 refine JB<|coS<|qQ [] (Many.begin w) fun w1 k1=>coI (v==0) (fun h=>coR<|qR 2 [] k1 fun w2 k2=>?_) fun h=>JE<|eoT<|coZ<|qR 3 [] k1 fun w2 k2=>?_
 · have h0:v=0:=by simpa using h
   obtain⟨w3,r1,r2,r3⟩:=(hM.below k2.touch.below).drop ha 0
   refine wM (QR0 r1)<|wT<|JJ<|QF<|qX ⟨rfl,?_,(QA6 k2.touch.below _).trans r3⟩
   unfold jW
   rw[if_pos h0]
   exact World.ownsMap.mono r2 (Nat.le_succ _)
 · have h0:v≠0:=by simpa using h
   obtain⟨w3,r1,r2,r3⟩:=(hM.below k2.touch.below).store hn ha hv
   refine wD (QRJ r1)<|woE<|eoV ⟨rfl,?_,(QA6 k2.touch.below _).trans r3⟩
   unfold jW
   rw[if_neg h0]
   exact r2
def QWS (A:Option Addr)(n cap b:Nat)(x:QL7):List Value:=[.slice A n cap,x.y 1,x.y 2,.map (some b),x.y 4,x.y 5,x.y 6,.slice A n cap,.int .i64 (n:Int),.int .i64 (x.k:Int),x.y 10,x.y 11,x.y 12,x.y 13,x.y 14,x.y 15,x.y 16,x.y 17,x.y 18,x.y 19,x.y 20]
def QWa (w:World)(b:Nat)(l:List (Int×Int))(x:QL7)(W:World):Prop:=Below w.heap.size w W∧MapAt W b x.k (mkS (l.take x.k))∧x.k≤l.length
theorem QIj (A:Option Addr)(cap:Nat)(l:List (Int×Int))(hl:l.length≤1000000000)(h16:QL l)(w:World)(hin:CellsIn w w.heap.size A l) :
 Calls Tryz.prog 45 #[.slice A l.length cap] w fun e w'=>∃ b,w.heap.size≤b∧e=.returned (.map (some b))∧MapAt w' b l.length (mkS l)∧Below w.heap.size w w':=by
 go_enter Tryz.func45,Tryz.ntmps45
 refine JB<|qQ [] (Many.begin w) fun w1 k1=>coR<|wM (QKV (run_makeMap _ w1))<|qE [] (Many.begin _) fun w2 k2=>coS<|qQ [] (Many.begin w2) fun w3 k3=>coB<|?_
 obtain⟨b,hb⟩:∃ b,b=w1.heap.size:=⟨_,rfl⟩
 have hwb:w.heap.size≤b:=by rw[hb];exact k1.touch.size
 have hB1:Below w.heap.size w (w1.alloc (.map #[] 0)):=k1.touch.below.trans ((Below.alloc (Below.refl _ _) (Nat.le_refl _) _).mono k1.touch.size)
 have hB3:=bOn (bOn hB1 k2) k3
 have hM3:MapAt w3 b 0 []:=by rw[hb];exact ((MapAt.made w1).below k2.touch.below).below k3.touch.below
 refine ZN (QWS A l.length cap b) (QWa w b l) (fun x=>l.length-x.k) (fun y=>⟨0,y⟩) ⟨hB3,hM3,Nat.zero_le _⟩ ?_ (by rw[hb];kernel_rfl)
 clear hM3 hB3 hB1 k3 k2 k1 hb
 rintro ⟨k,y⟩ W ⟨hB,hM,hk⟩
 have hk:k≤l.length:=hk
 have hM:MapAt W b k (mkS (l.take k)):=hM
 refine qQ [] (Many.begin W) fun wa ka=>coS<|coI (decide ((k:Int) < (l.length:Int))) (fun hlt=>JE<|eoT<|coS<|coB<|?_) fun hge=>coX<|X8<|X8<|QAe<|eoT ?_
 · have hlt:k < l.length:=by have:(k:Int) < (l.length:Int):=by simpa using hlt
                             omega
   obtain⟨p,rfl,hp,h1,h2⟩:=(hin.below (bOn hB ka)).at_ hlt
   have hc:=h16 _ (List.getElem_mem hlt)
   refine coR<|wM (XF (QKR p l.length cap k hlt _))<|wM (J3 (QLw h1 h2))<|qE [0] ka fun wb kb=>coZ<|qR 5 [0,0] kb fun wc kc=>?_
   refine kO (QLU _ b k _ l[k].1 l[k].2 ⟨hc.1,hc.2.1⟩ ⟨hc.2.2.1,hc.2.2.2⟩ (hM.below kc.touch.below) (by simp only[maxLen];omega)) fun wd ⟨hMd,hgd⟩=>woE<|eoB<|eoT<|coZ<|wM (QA3 k (by omega))<|qF [] (Many.begin wd) fun we ke=>Qk (fun y=>⟨k+1,y⟩) ⟨bOn (qz (bOn hB kc) hgd hwb (bOn hB kc).size) ke,?_,hlt⟩ (by show l.length-(k+1) < l.length-k;omega)
   show MapAt we b (k+1) (mkS (l.take (k+1)))
   rw[QB1 l k hlt,QIy]
   exact hMd.below ke.touch.below
 · have hkl:k=l.length:=by have:¬((k:Int) < (l.length:Int)):=by simpa using hge
                           omega
   subst hkl
   refine qQ [] (Many.begin wa) fun wz kz=>JJ<|J8 (.map (some b)) ⟨b,hwb,rfl,?_,bOn (bOn hB ka) kz⟩
   rw[List.take_length] at hM
   exact (hM.below ka.touch.below).below kz.touch.below
def QVg (A:Option Addr)(n cap:Nat)(at_:Int)(x:QPv):List Value:=[.slice A n cap,.int .u16 at_,x.y 2,x.y 3,x.y 4,.int .u8 x.v,x.y 6,x.y 7,.slice A n cap,.int .i64 (n:Int),.int .i64 (x.k:Int),x.y 11,x.y 12,x.y 13,x.y 14,x.y 15,x.y 16,x.y 17,x.y 18,x.y 19,x.y 20,x.y 21]
def QTQ (w:World)(l:List (Int×Int))(at_:Int)(x:QPv)(W:World):Prop:=Below w.heap.size w W∧x.v=Ql (l.take x.k) at_∧x.k≤l.length
theorem QBU (l:List (Int×Int))(at_:Int)(k:Nat)(h:k < l.length):Ql (l.take (k+1)) at_=if l[k].1=at_ then l[k].2 else Ql (l.take k) at_:=by rw[QB1 l k h,qt]
theorem QPq (A:Option Addr)(cap:Nat)(l:List (Int×Int))(at_:Int)(hl:l.length≤1000000000)(w:World)(hin:CellsIn w w.heap.size A l) :
 Calls Tryz.prog 60 #[.slice A l.length cap,.int .u16 at_] w fun e w'=>e=.returned (.int .u8 (Ql l at_))∧Below w.heap.size w w':=by
 go_enter Tryz.func60,Tryz.ntmps60
 refine JB<|qQ [] (Many.begin w) fun w1 k1=>qQ [] k1 fun w2 k2=>coS<|qQ [] k2 fun w3 k3=>coB<|ZN (QVg A l.length cap at_) (QTQ w l at_) (fun x=>l.length-x.k) (fun y=>⟨0,0,y⟩) ⟨k3.touch.below,rfl,Nat.zero_le _⟩ ?_
 rintro ⟨k,v,y⟩ W ⟨hB,hv,hk⟩
 have hk:k≤l.length:=hk
 have hv:v=Ql (l.take k) at_:=hv
 refine qQ [] (Many.begin W) fun wa ka=>coS<|coI (decide ((k:Int) < (l.length:Int))) (fun hlt=>JE<|eoT<|coS<|coB<|?_) fun hge=>coX<|X8<|X8<|QAe<|eoT ?_
 · have hlt:k < l.length:=by have:(k:Int) < (l.length:Int):=by simpa using hlt
                             omega
   obtain⟨p,rfl,hp,h1,h2⟩:=(hin.below (bOn hB ka)).at_ hlt
   refine coR<|wM (XF (QKR p l.length cap k hlt _))<|wM (J3 (QLw h1 h2))<|qE [0] ka fun wb kb=>qQ [0] kb fun wc kc=>coI (l[k].1==at_) (fun h=>coZ<|qF [0] kc fun wd kd=>eoB<|eoT<|coZ<|wM (QA3 k (by omega))<|qF [] kd fun we ke=>Qk (fun y=>⟨k+1,l[k].2,y⟩) ⟨bOn hB ke,?_,hlt⟩ (by show l.length-(k+1) < l.length-k;omega)) fun h=>JE<|eoB<|eoT<|coZ<|wM (QA3 k (by omega))<|qF [] kc fun we ke=>Qk (fun y=>⟨k+1,v,y⟩) ⟨bOn hB ke,?_,hlt⟩ (by show l.length-(k+1) < l.length-k;omega)
   · show l[k].2=Ql (l.take (k+1)) at_
     rw[QBU l at_ k hlt,if_pos (by simpa using h)]
   · show v=Ql (l.take (k+1)) at_
     rw[QBU l at_ k hlt,if_neg (by simpa using h)]
     exact hv
 · have hkl:k=l.length:=by have:¬((k:Int) < (l.length:Int)):=by simpa using hge
                           omega
   subst hkl
   rw[List.take_length] at hv
   subst hv
   exact qQ [] ka fun wz kz=>JJ<|J8 (.int .u8 (Ql l at_)) ⟨rfl,bOn hB kz⟩
def QTo (A:Option Addr)(n cap:Nat)(at_:Int)(x:QPv):List Value:=[.slice A n cap,.int .u16 at_,x.y 2,x.y 3,x.y 4,.int .u8 x.v,.int .i64 (x.k:Int),x.y 7,x.y 8,x.y 9,x.y 10,x.y 11,x.y 12,x.y 13,x.y 14,x.y 15,x.y 16,x.y 17,x.y 18,x.y 19,x.y 20,x.y 21,x.y 22,x.y 23,x.y 24,x.y 25]
theorem QAG (A:Option Addr)(cap:Nat)(l:List (Int×Int))(at_:Int)(hl:l.length≤1000000000)(w:World)(hin:CellsIn w w.heap.size A l) :
 Calls Tryz.prog 24 #[.slice A l.length cap,.int .u16 at_] w fun e w'=>e=.returned (.int .u8 (Ql l at_))∧Below w.heap.size w w':=by
 go_enter Tryz.func24,Tryz.ntmps24
 refine JB<|qQ [] (Many.begin w) fun w1 k1=>qQ [] k1 fun w2 k2=>coS<|qQ [] k2 fun w3 k3=>coB<|ZN (QTo A l.length cap at_) (QTQ w l at_) (fun x=>l.length-x.k) (fun y=>⟨0,0,y⟩) ⟨k3.touch.below,rfl,Nat.zero_le _⟩ ?_
 rintro ⟨k,v,y⟩ W ⟨hB,hv,hk⟩
 have hk:k≤l.length:=hk
 have hv:v=Ql (l.take k) at_:=hv
 refine coS<|qQ [] (Many.begin W) fun wa ka=>coI (decide ((k:Int) < (l.length:Int))) (fun hlt=>JE<|eoT<|coS<|coB<|?_) fun hge=>coX<|X8<|X8<|QAe<|eoT ?_
 · have hlt:k < l.length:=by have:(k:Int) < (l.length:Int):=by simpa using hlt
                             omega
   obtain⟨p,rfl,-⟩:=hin.at_ hlt
   refine coR<|qR 2 [] ka fun wb kb=>wM (XF (QKR p l.length cap k hlt _))<|wM (QCN (QPL (p.add (k*2)) _))<|wM (J3 ((hin.below (bOn hB kb)).ld0 hlt))<|qE [] kb fun wc kc=>coI (l[k].1==at_) (fun h=>coZ<|qR 2 [] kc fun wd kd=>wM (XF (QKR p l.length cap k hlt _))<|wM (QCN (QVv (p.add (k*2)) _))<|wM (J3 ((hin.below (bOn hB kd)).ld1 hlt))<|qF [] kd fun we ke=>eoB<|eoT<|coZ<|qR 1 [] ke fun wf kf=>wM (QA3 k (by omega))<|qF [] kf fun wg kg=>Qk (fun y=>⟨k+1,l[k].2,y⟩) ⟨bOn hB kg,?_,hlt⟩ (by show l.length-(k+1) < l.length-k;omega)) fun h=>JE<|eoB<|eoT<|coZ<|qR 1 [] kc fun we ke=>wM (QA3 k (by omega))<|qF [] ke fun wf kf=>Qk (fun y=>⟨k+1,v,y⟩) ⟨bOn hB kf,?_,hlt⟩ (by show l.length-(k+1) < l.length-k;omega)
   · show l[k].2=Ql (l.take (k+1)) at_
     rw[QBU l at_ k hlt,if_pos (by simpa using h)]
   · show v=Ql (l.take (k+1)) at_
     rw[QBU l at_ k hlt,if_neg (by simpa using h)]
     exact hv
 · have hkl:k=l.length:=by have:¬((k:Int) < (l.length:Int)):=by simpa using hge
                           omega
   subst hkl
   rw[List.take_length] at hv
   subst hv
   exact qQ [] ka fun wz kz=>JJ<|J8 (.int .u8 (Ql l at_)) ⟨rfl,bOn hB kz⟩
theorem cv16 (a:Int)(h:0≤a∧a≤65535)(w:World):(convert 22 3 (.int .u16 a)).run Tryz.prog w=.ok (.int .i64 a) w:=by
 have e:IntKind.i64.wrap a=a:=by rw[IntKind.wrap_i64];omega
 simp[go_sem,e]
theorem QUv (op:BinOp)(x y:Operand)(a b:Int)(w:World):(eqGuard op 3 x y (.int .i64 a) (.int .i64 b)).run Tryz.prog w=.ok () w:=by simp[go_sem]
theorem QQb (a b c d:Int)(w:World):(binOp .neq 67 (.agg #[.int .u16 a,.int .u8 b]) (.agg #[.int .u16 c,.int .u8 d])).run Tryz.prog w=.ok (.bool (!(a==c&&b==d))) w:=by
 by_cases h1:a=c<;>by_cases h2:b=d<;>simp[go_sem,h1,h2]
theorem QKx (op:BinOp)(x y:Operand)(a b c d:Int)(w:World):(eqGuard op 67 x y (.agg #[.int .u16 a,.int .u8 b]) (.agg #[.int .u16 c,.int .u8 d])).run Tryz.prog w=.ok () w:=by
 simp[go_sem]
def QVI (A:Option Addr)(n cap:Nat)(A':Option Addr)(n' cap':Nat)(x:QL7):List Value:=[.slice A n cap,.slice A' n' cap',x.y 2,x.y 3,x.y 4,.int .i64 (x.k:Int),x.y 6,x.y 7,x.y 8,x.y 9,x.y 10,x.y 11,x.y 12,x.y 13,x.y 14,x.y 15,x.y 16,x.y 17,x.y 18,x.y 19,x.y 20,x.y 21,x.y 22,x.y 23,x.y 24,x.y 25]
def QVQ (w:World)(l m:List (Int×Int))(x:QL7)(W:World):Prop:=Below w.heap.size w W∧l.take x.k=m.take x.k∧x.k≤l.length
theorem QHE (A:Option Addr)(cap:Nat)(l:List (Int×Int))(A':Option Addr)(cap':Nat)(m:List (Int×Int))(hl:l.length≤1000000000)(w:World)(hin:CellsIn w w.heap.size A l)(hin':CellsIn w w.heap.size A' m) :
 Calls Tryz.prog 14 #[.slice A l.length cap,.slice A' m.length cap'] w fun e w'=>e=.returned (.bool (decide (l=m)))∧Below w.heap.size w w':=by
 go_enter Tryz.func14,Tryz.ntmps14
 refine JB<|qQ [] (Many.begin w) fun w1 k1=>coS<|qQ [] k1 fun w2 k2=>coI ((l.length:Int) != (m.length:Int)) (fun h=>?_) fun h=>?_
 · have hne:l≠m:=fun e=>by rw[e] at h;simp at h
   exact qQ [] k2 fun w3 k3=>JJ<|QF<|J8 (.bool false) ⟨by rw[decide_eq_false hne],k3.touch.below⟩
 have hlm:l.length=m.length:=by have:((l.length:Int)=(m.length:Int)):=by simpa using h
                                omega
 refine JE<|eoT<|coS<|qQ [] k2 fun w3 k3=>coB<|ZN (QVI A l.length cap A' m.length cap') (QVQ w l m) (fun x=>l.length-x.k) (fun y=>⟨0,y⟩) ⟨k3.touch.below,rfl,Nat.zero_le _⟩ ?_
 rintro ⟨k,y⟩ W ⟨hB,hv,hk⟩
 have hk:k≤l.length:=hk
 have hv:l.take k=m.take k:=hv
 refine coS<|qQ [] (Many.begin W) fun wa ka=>coI (decide ((k:Int) < (l.length:Int))) (fun hlt=>JE<|eoT<|coS<|coB<|?_) fun hge=>coX<|X8<|X8<|QAe<|eoT ?_
 · have hlt:k < l.length:=by have:(k:Int) < (l.length:Int):=by simpa using hlt
                             omega
   have hlt':k < m.length:=by omega
   obtain⟨p,rfl,-⟩:=hin.at_ hlt
   obtain⟨q,rfl,-⟩:=hin'.at_ hlt'
   refine coD 8 (bOn hB ka) fun wb hb hB2=>qM [0,1] hB2<|qT 2 hB2 (fun w' _=>XF (QKR p l.length cap k hlt _))<|qT 3 hB2 (fun w' hS=>J3 ((hin.below hS).ldW hlt))<|qM [4,5] hB2<|qT 6 hB2 (fun w' _=>XF (QKR q m.length cap' k hlt' _))<|qT 7 hB2 (fun w' hS=>J3 ((hin'.below hS).ldW hlt'))<|poE<|wM (QOs (QKx _ _ _ l[k].1 l[k].2 m[k].1 m[k].2 _) (QQb l[k].1 l[k].2 m[k].1 m[k].2 _))<|wT<|coI (!(l[k].1==m[k].1&&l[k].2==m[k].2)) (fun h=>?_) fun h=>?_
   · have hne:l≠m:=fun e=>by subst e;simp at h
     exact qQ [] (Many.begin wb) fun w3 k3=>JJ<|Zq<|QF<|QF<|Zq<|QF<|J8 (.bool false) ⟨by rw[decide_eq_false hne],bOn hB2 k3⟩
   · have he:l[k]=m[k]:=by
      simp at h
      exact Prod.ext h.1 h.2
     refine JE<|eoB<|eoT<|coZ<|qR 1 [] (Many.begin wb) fun we ke=>wM (QA3 k (by omega))<|qF [] ke fun wf kf=>Qk (fun y=>⟨k+1,y⟩) ⟨bOn hB2 kf,?_,hlt⟩ (by show l.length-(k+1) < l.length-k;omega)
     show l.take (k+1)=m.take (k+1)
     rw[QB1 l k hlt,QB1 m k hlt',hv,he]
 · have hkl:k=l.length:=by have:¬((k:Int) < (l.length:Int)):=by simpa using hge
                           omega
   subst hkl
   have e:l=m:=by
    have:=hv
    rw[List.take_length,hlm,List.take_length] at this
    exact this
   exact qQ [] ka fun wz kz=>JJ<|J8 (.bool true) ⟨by rw[decide_eq_true e],bOn hB kz⟩
theorem bsC (a b:Int)(w:World):(Instr.buildSlice 25 1 #[(0,.agg #[.int .u16 a,.int .u8 b])]).run Tryz.prog w=.ok (.slice (some ⟨w.heap.size,0,none⟩) 1 1) (w.alloc (.cells #[.int .u16 a,.int .u8 b] 67)):=by simp[go_sem]
theorem QAZ (w:World)(a b:Int)(t:TypeId):CellsIn (w.alloc (.cells #[.int .u16 a,.int .u8 b] t)) (w.heap.size+1) (some ⟨w.heap.size,0,none⟩) [(a,b)] :=
 CellsIn.of_values (by simp) (QA1 w [.int .u16 a,.int .u8 b] t)
structure QO5 where
 out:List (Int×Int)
 last:Int
 v:Value
 y:Nat→Value
structure QQA where
 k:Nat
 best:Int
 y:Nat→Value
def QRu (A:Option Addr)(n cap:Nat)(x:QO5):List Value:=[.slice A n cap,x.y 1,x.y 2,x.v,.int .i64 x.last,x.y 5,x.y 6,x.y 7,x.y 8,x.y 9,x.y 10,x.y 11,x.y 12,x.y 13,x.y 14,x.y 15,x.y 16,x.y 17,x.y 18,x.y 19,x.y 20,x.y 21,x.y 22,x.y 23,x.y 24,x.y 25,x.y 26,x.y 27,x.y 28,x.y 29,x.y 30,x.y 31,x.y 32,x.y 33,x.y 34,x.y 35,x.y 36,x.y 37,x.y 38,x.y 39,x.y 40,x.y 41,x.y 42,x.y 43,x.y 44,x.y 45,x.y 46,x.y 47,x.y 48,x.y 49,x.y 50,x.y 51,x.y 52]
def QSa (A:Option Addr)(n cap:Nat)(v:Value)(last:Int)(x:QQA):List Value:=[.slice A n cap,x.y 1,x.y 2,v,.int .i64 last,.int .i64 x.best,.int .i64 (x.k:Int),x.y 7,x.y 8,x.y 9,x.y 10,x.y 11,x.y 12,x.y 13,x.y 14,x.y 15,x.y 16,x.y 17,x.y 18,x.y 19,x.y 20,x.y 21,x.y 22,x.y 23,x.y 24,x.y 25,x.y 26,x.y 27,x.y 28,x.y 29,x.y 30,x.y 31,x.y 32,x.y 33,x.y 34,x.y 35,x.y 36,x.y 37,x.y 38,x.y 39,x.y 40,x.y 41,x.y 42,x.y 43,x.y 44,x.y 45,x.y 46,x.y 47,x.y 48,x.y 49,x.y 50,x.y 51,x.y 52]
def QRK (w w0:World)(l:List (Int×Int))(x:QO5)(W:World):Prop:=Below w.heap.size w W∧W.ownsRow w.heap.size 67 2 x.v x.out.length (cvs x.out)∧(-1≤x.last∧x.last≤65535)∧∃ rest,mkS l=x.out++rest∧(∀ p∈x.out,p.1≤x.last)∧∀ p∈rest,x.last < p.1
def QMO (w w0:World)(l out:List (Int×Int))(v:Value)(last:Int)(x:QQA)(W:World):Prop:=Below w.heap.size w W∧W.ownsRow w.heap.size 67 2 v out.length (cvs out)∧x.best=QD9 l last (l.take x.k)∧x.k≤l.length
theorem zM (A:Option Addr)(cap:Nat)(l:List (Int×Int))(hl:l.length≤1000000000)(h16:QL l)(w:World)(hin:CellsIn w w.heap.size A l) :
 Calls Tryz.prog 22 #[.slice A l.length cap] w fun e w'=>∃ v,e=.returned v∧w'.ownsRow w.heap.size 67 2 v (mkS l).length (cvs (mkS l))∧Below w.heap.size w w':=by
 go_enter Tryz.func22,Tryz.ntmps22
 refine JB<|qQ [] (Many.begin w) fun w1 k1=>qQ [] k1 fun w2 k2=>qQ [] k2 fun w3 k3=>coB<|ZN (QRu A l.length cap) (QRK w w l) (fun x=>(mkS l).length-x.out.length) (fun y=>⟨[],-1,.slice none 0 0,y⟩) ⟨k3.touch.below,World.ownsRow_nil ..,⟨by show (-1:Int)≤-1;omega,by show (-1:Int)≤65535;omega⟩,mkS l,rfl,fun _ h=>(by cases h),fun p hp=>(by have:=(QBt h16 p hp).1;show -1 < p.1;omega)⟩ ?_
 rintro ⟨out,last,v,y⟩ W ⟨hB,hown,hlast,rest,hm,ho,hr⟩
 have hown:W.ownsRow w.heap.size 67 2 v out.length (cvs out):=hown
 have hlast:-1≤last∧last≤65535:=hlast
 have hm:mkS l=out++rest:=hm
 have ho:∀ p∈out,p.1≤last:=ho
 have hr:∀ p∈rest,last < p.1:=hr
 refine coB<|qQ [] (Many.begin W) fun wa ka=>coS<|qQ [] ka fun wb kb=>coB<|ZN (QSa A l.length cap v last) (QMO w w l out v last) (fun x=>l.length-x.k) (fun y=>⟨0,65536,y⟩) ⟨bOn hB kb,own_below hown kb.touch.below,rfl,Nat.zero_le _⟩ ?_
 rintro ⟨k,best,y2⟩ W2 ⟨hB2,hown2,hbest,hk⟩
 have hk:k≤l.length:=hk
 have hown2:W2.ownsRow w.heap.size 67 2 v out.length (cvs out):=hown2
 have hbest:best=QD9 l last (l.take k):=hbest
 refine coS<|qQ [] (Many.begin W2) fun wc kc=>coI (decide ((k:Int) < (l.length:Int))) (fun hlt=>JE<|eoT<|coS<|coB<|?_) fun hge=>coX<|X8<|X8<|QAe<|eoT ?_
 · have hlt:k < l.length:=by have:(k:Int) < (l.length:Int):=by simpa using hlt
                             omega
   obtain⟨p,rfl,-⟩:=hin.at_ hlt
   have hc:=h16 _ (List.getElem_mem hlt)
   have hB3:=bOn hB2 kc
   have hown3:=own_below hown2 kc.touch.below
   refine coR<|qR 2 [] kc fun wd kd=>wM (XF (QKR p l.length cap k hlt _))<|wM (QCN (QPL (p.add (k*2)) _))<|wM (J3 ((hin.below (bOn hB2 kd)).ld0 hlt))<|wM (QHP (cv16 l[k].1 ⟨hc.1,hc.2.1⟩ _))<|qE [] kd fun we ke=>coR<|qR 4 [] ke fun wf kf=>?_
   have key:∀ (y':Nat→Value) (W3:World) (b:Int),Below W2.heap.size W2 W3→b=QAT l last best l[k]→QMO w w l out v last ⟨k+1,b,y'⟩ W3:=fun y' W3 b h e=>⟨hB2.trans (h.mono hB2.size),own_below hown2 h,by
    show b=QD9 l last (l.take (k+1))
    rw[QKn l last l k hlt,←hbest,e],hlt⟩
   by_cases g1:l[k].1 > last
   · refine tell 23 (decide_eq_true g1)<|qR 5 [] kf fun wg kg=>?_
     by_cases g2:l[k].1 < best
     · refine tell 28 (decide_eq_true g2)<|qR 3 [] kg fun wh kh=>wM (XF (QKR p l.length cap k hlt _))<|wM (QCN (QPL (p.add (k*2)) _))<|wM (J3 ((hin.below (bOn hB2 kh)).ld0 hlt))<|kO (QAG (some p) cap l l[k].1 hl _ ((hin.below (bOn hB2 kh)).more (bOn hB2 kh).size)) fun wi hbi=>qE [] (kh.below hbi) fun wj kj=>coI (Ql l l[k].1 != 0) (fun g3=>coZ<|qF [] kj fun wk kk=>eoB<|eoT<|coZ<|qR 1 [] kk fun wx kx=>wM (QA3 k (by omega))<|qF [] kx fun wy ky=>Qk (fun y=>⟨k+1,l[k].1,y⟩) (key _ _ _ ky.touch.below ?_) (by show l.length-(k+1) < l.length-k;omega)) fun g3=>JE<|eoB<|eoT<|coZ<|qR 1 [] kj fun wx kx=>wM (QA3 k (by omega))<|qF [] kx fun wy ky=>Qk (fun y=>⟨k+1,best,y⟩) (key _ _ _ ky.touch.below ?_) (by show l.length-(k+1) < l.length-k;omega)
       · exact (if_pos (by rw[decide_eq_true g1,decide_eq_true g2,g3];rfl)).symm
       · exact (if_neg (by rw[g3];simp)).symm
     · refine tell 28 (decide_eq_false g2)<|qE [] kg fun wh kh=>coF<|JE<|eoB<|eoT<|coZ<|qR 1 [] kh fun wx kx=>wM (QA3 k (by omega))<|qF [] kx fun wy ky=>Qk (fun y=>⟨k+1,best,y⟩) (key _ _ _ ky.touch.below ?_) (by show l.length-(k+1) < l.length-k;omega)
       exact (if_neg (by rw[decide_eq_false g2];simp)).symm
   · refine tell 23 (decide_eq_false g1)<|qE [] kf fun wh kh=>coF<|JE<|eoB<|eoT<|coZ<|qR 1 [] kh fun wx kx=>wM (QA3 k (by omega))<|qF [] kx fun wy ky=>Qk (fun y=>⟨k+1,best,y⟩) (key _ _ _ ky.touch.below ?_) (by show l.length-(k+1) < l.length-k;omega)
     exact (if_neg (by rw[decide_eq_false g1];simp)).symm
 · have hkl:k=l.length:=by have:¬((k:Int) < (l.length:Int)):=by simpa using hge
                           omega
   subst hkl
   rw[List.take_length,QNt h16 hm ho hr] at hbest
   have hB3:=bOn hB2 kc
   have hown3:=own_below hown2 kc.touch.below
   refine coS<|qQ [] kc fun wd kd=>coI (best==65536) (fun g=>?_) fun g=>JE<|eoT ?_
   · have hrest:rest=[]:=by
      have g:best=65536:=by simpa using g
      cases rest with
      | nil=>rfl
      | cons d r =>
        have h:=(QBt h16 d (by rw[hm];simp)).2.1
        rw[g] at hbest
        simp only at hbest
        omega
     subst hrest
     rw[List.append_nil] at hm
     rw[hm]
     exact qQ [] kd fun we ke=>JJ<|QF<|Zq<|QF<|Zq<|J8 v ⟨v,rfl,own_below hown2 ke.touch.below,bOn hB2 ke⟩
   · obtain⟨d,r,rfl⟩:∃ d r,rest=d :: r:=by
      cases rest with
      | nil=>simp only at hbest;rw[hbest] at g;simp at g
      | cons d r=>exact⟨d,r,rfl⟩
     simp only at hbest
     subst hbest
     have hd:d∈mkS l:=by rw[hm];simp
     have hc:=QBt h16 d hd
     have hg:Ql l d.1=d.2:=((QBv l d).1 hd).1
     refine coR<|qR 2 [] kd fun we ke=>wM (QHP (QO7 d.1 ⟨hc.1,hc.2.1⟩ _))<|qR 2 [] ke fun wf kf=>wM (QHP (QO7 d.1 ⟨hc.1,hc.2.1⟩ _))<|kO (QAG A cap l d.1 hl _ ((hin.below (bOn hB2 kf)).more (bOn hB2 kf).size)) fun wg hbg=>qR 1 [] (kf.below hbg) fun wh kh=>wM (XD (bsC d.1 (Ql l d.1) wh))<|?_
     have hlen:out.length+1≤1000000000:=by
      have h1:=QB7 l
      rw[hm] at h1
      simp at h1
      omega
     refine qAc (.tmp 42) (.tmp 50) w.heap.size _ v out.length out (some ⟨wh.heap.size,0,none⟩) 1 [(d.1,Ql l d.1)] (XT (bOn hB2 kh) _).size ((own_below hown2 kh.touch.below).alloc _) (QAZ wh d.1 (Ql l d.1) _) (fun e=>by cases e) (by show out.length+1≤_;omega) fun v' wi own' hgr=>?_
     have hBi:=XA (XT (bOn hB2 kh) _) hgr ((own_below hown2 kh.touch.below).alloc _) (Nat.le_refl _) (XT (bOn hB2 kh) _).size
     refine qE [] (Many.begin wi) fun wj kj=>coZ<|qF [] kj fun wk kk=>eoB<|Qk (fun y=>⟨out++[d],d.1,v',y⟩) ⟨bOn hBi kk,?_,⟨by show -1≤d.1;have:=hc.1;omega,hc.2.1⟩,r,?_,?_,?_⟩ ?_
     · rw[hg] at own'
       show wk.ownsRow _ _ _ v' (out++[d]).length _
       rw[List.length_append]
       exact own_below own' kk.touch.below
     · show mkS l=(out++[d])++r
       rw[hm,List.append_assoc];rfl
     · intro p hp
       show p.1≤d.1
       rcases List.mem_append.1 hp with hp|hp
       · have h1:=ho p hp
         have h2:=hr d (by simp)
         omega
       · simp at hp;rw[hp];omega
     · intro p hp
       have hs:Srt (out++d :: r):=by rw[←hm];exact QBw l
       exact (List.pairwise_cons.1 (List.pairwise_append.1 hs).2.1).1 p hp
     · show (mkS l).length-(out++[d]).length < (mkS l).length-out.length
       rw[hm]
       simp
       omega
theorem QLr (A:Option Addr)(cap:Nat)(l:List (Int×Int))(hl:l.length≤1000000000)(h16:QL l)(w:World)(hin:CellsIn w w.heap.size A l) :
 Calls Tryz.prog 22 #[.slice A l.length cap] w fun e w'=>∃ A' c,e=.returned (.slice A' (mkS l).length c)∧CellsIn w' w'.heap.size A' (mkS l)∧(mkS l).length≤c∧(A'=none→c=0)∧Below w.heap.size w w' :=
 (zM A cap l hl h16 w hin).mono fun e w' ⟨v,h1,h2,h3⟩=>by
   obtain⟨A',c,rfl,hc,hci,hn⟩:=Qq h2
   exact⟨A',c,h1,hci,hc,hn,h3⟩
end Go.Proofs.YtkgaeamdhhceiaaGreatDoor
