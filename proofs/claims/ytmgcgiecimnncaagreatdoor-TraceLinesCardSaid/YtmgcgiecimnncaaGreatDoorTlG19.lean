/- Contracts and facts that the claim's proof wants (several texts in one). -/
import Derived.ArgAppend
import Derived.Test.YtmgcgiecimnncaaGreatDoorTlG18
namespace Go.Proofs.YtmgcgiecimnncaaGreatDoor
open Go.RowKit
set_option linter.unusedVariables false
set_option linter.unusedSimpArgs false
set_option maxRecDepth 20000
set_option maxHeartbeats 20000000
theorem bsC (a b:Int)(w:World):(Instr.buildSlice 25 1 #[(0,.agg #[.int .u16 a,.int .u8 b])]).run Tryz.prog w=.ok (.slice (some ⟨w.heap.size,0,none⟩) 1 1) (w.alloc (.cells #[.int .u16 a,.int .u8 b] 55)):=by simp[go_sem]
theorem QCh (w:World)(a b:Int)(t:TypeId):CellsIn (w.alloc (.cells #[.int .u16 a,.int .u8 b] t)) (w.heap.size+1) (some ⟨w.heap.size,0,none⟩) [(a,b)] :=
 CellsIn.of_values (by simp) (XP w [.int .u16 a,.int .u8 b] t)
structure QQe where
 out:List (Int×Int)
 last:Int
 v:Value
 y:Nat→Value
structure QPr where
 k:Nat
 best:Int
 y:Nat→Value
def QRw (A:Option Addr)(n cap:Nat)(x:QQe):List Value:=[.slice A n cap,x.y 1,x.y 2,x.v,.int .i64 x.last,x.y 5,x.y 6,x.y 7,x.y 8,x.y 9,x.y 10,x.y 11,x.y 12,x.y 13,x.y 14,x.y 15,x.y 16,x.y 17,x.y 18,x.y 19,x.y 20,x.y 21,x.y 22,x.y 23,x.y 24,x.y 25,x.y 26,x.y 27,x.y 28,x.y 29,x.y 30,x.y 31,x.y 32,x.y 33,x.y 34,x.y 35,x.y 36,x.y 37,x.y 38,x.y 39,x.y 40,x.y 41,x.y 42,x.y 43,x.y 44,x.y 45,x.y 46,x.y 47,x.y 48,x.y 49,x.y 50,x.y 51,x.y 52]
def QRQ (A:Option Addr)(n cap:Nat)(v:Value)(last:Int)(x:QPr):List Value:=[.slice A n cap,x.y 1,x.y 2,v,.int .i64 last,.int .i64 x.best,.int .i64 (x.k:Int),x.y 7,x.y 8,x.y 9,x.y 10,x.y 11,x.y 12,x.y 13,x.y 14,x.y 15,x.y 16,x.y 17,x.y 18,x.y 19,x.y 20,x.y 21,x.y 22,x.y 23,x.y 24,x.y 25,x.y 26,x.y 27,x.y 28,x.y 29,x.y 30,x.y 31,x.y 32,x.y 33,x.y 34,x.y 35,x.y 36,x.y 37,x.y 38,x.y 39,x.y 40,x.y 41,x.y 42,x.y 43,x.y 44,x.y 45,x.y 46,x.y 47,x.y 48,x.y 49,x.y 50,x.y 51,x.y 52]
def QS2 (w w0:World)(l:List (Int×Int))(x:QQe)(W:World):Prop:=Below w.heap.size w W∧W.ownsRow w.heap.size 55 2 x.v x.out.length (cvs x.out)∧(-1≤x.last∧x.last≤65535)∧∃ rest,mkS l=x.out++rest∧(∀ p∈x.out,p.1≤x.last)∧∀ p∈rest,x.last < p.1
def QMG (w w0:World)(l out:List (Int×Int))(v:Value)(last:Int)(x:QPr)(W:World):Prop:=Below w.heap.size w W∧W.ownsRow w.heap.size 55 2 v out.length (cvs out)∧x.best=QDD l last (l.take x.k)∧x.k≤l.length
theorem QJw (A:Option Addr)(cap:Nat)(l:List (Int×Int))(hl:l.length≤1000000000)(h16:Jk l)(w:World)(hin:CellsIn w w.heap.size A l) :
 Calls Tryz.prog 28 #[.slice A l.length cap] w fun e w'=>∃ v,e=.returned v∧w'.ownsRow w.heap.size 55 2 v (mkS l).length (cvs (mkS l))∧Below w.heap.size w w':=by
 go_enter Tryz.func28,Tryz.ntmps28
 refine JA<|qQ [] (Many.begin w) fun w1 k1=>qQ [] k1 fun w2 k2=>qQ [] k2 fun w3 k3=>coB<|jA (QRw A l.length cap) (QS2 w w l) (fun x=>(mkS l).length-x.out.length) (fun y=>⟨[],-1,.slice none 0 0,y⟩) ⟨k3.touch.below,World.ownsRow_nil ..,⟨by show (-1:Int)≤-1;omega,by show (-1:Int)≤65535;omega⟩,mkS l,rfl,fun _ h=>(by cases h),fun p hp=>(by have:=(QCN h16 p hp).1;show -1 < p.1;omega)⟩ ?_
 rintro ⟨out,last,v,y⟩ W ⟨hB,hown,hlast,rest,hm,ho,hr⟩
 have hown:W.ownsRow w.heap.size 55 2 v out.length (cvs out):=hown
 have hlast:-1≤last∧last≤65535:=hlast
 have hm:mkS l=out++rest:=hm
 have ho:∀ p∈out,p.1≤last:=ho
 have hr:∀ p∈rest,last < p.1:=hr
 refine coB<|qQ [] (Many.begin W) fun wa ka=>coS<|qQ [] ka fun wb kb=>coB<|jA (QRQ A l.length cap v last) (QMG w w l out v last) (fun x=>l.length-x.k) (fun y=>⟨0,65536,y⟩) ⟨bOn hB kb,own_below hown kb.touch.below,rfl,Nat.zero_le _⟩ ?_
 rintro ⟨k,best,y2⟩ W2 ⟨hB2,hown2,hbest,hk⟩
 have hk:k≤l.length:=hk
 have hown2:W2.ownsRow w.heap.size 55 2 v out.length (cvs out):=hown2
 have hbest:best=QDD l last (l.take k):=hbest
 refine coS<|qQ [] (Many.begin W2) fun wc kc=>coI (decide ((k:Int) < (l.length:Int))) (fun hlt=>JC<|eoT<|coS<|coB<|?_) fun hge=>coX<|jv<|jv<|QE9<|eoT ?_
 · have hlt:k < l.length:=by have:(k:Int) < (l.length:Int):=by simpa using hlt
                             omega
   obtain⟨p,rfl,-⟩:=hin.at_ hlt
   have hc:=h16 _ (List.getElem_mem hlt)
   have hB3:=bOn hB2 kc
   have hown3:=own_below hown2 kc.touch.below
   refine coR<|qR 2 [] kc fun wd kd=>wM (Jm (QKH p l.length cap k hlt _))<|wM (QHf (QQt (p.add (k*2)) _))<|wM (Jc ((hin.below (bOn hB2 kd)).ld0 hlt))<|wM (QBL (cv16 l[k].1 ⟨hc.1,hc.2.1⟩ _))<|qE [] kd fun we ke=>coR<|qR 4 [] ke fun wf kf=>?_
   have key:∀ (y':Nat→Value) (W3:World) (b:Int),Below W2.heap.size W2 W3→b=zQ l last best l[k]→QMG w w l out v last ⟨k+1,b,y'⟩ W3:=fun y' W3 b h e=>⟨hB2.trans (h.mono hB2.size),own_below hown2 h,by
    show b=QDD l last (l.take (k+1))
    rw[QKA l last l k hlt,←hbest,e],hlt⟩
   by_cases g1:l[k].1 > last
   · refine tell 23 (decide_eq_true g1)<|qR 5 [] kf fun wg kg=>?_
     by_cases g2:l[k].1 < best
     · refine tell 28 (decide_eq_true g2)<|qR 3 [] kg fun wh kh=>wM (Jm (QKH p l.length cap k hlt _))<|wM (QHf (QQt (p.add (k*2)) _))<|wM (Jc ((hin.below (bOn hB2 kh)).ld0 hlt))<|kO (QCw (some p) cap l l[k].1 hl _ ((hin.below (bOn hB2 kh)).more (bOn hB2 kh).size)) fun wi hbi=>qE [] (kh.below hbi) fun wj kj=>coI (QP l l[k].1 != 0) (fun g3=>coZ<|qF [] kj fun wk kk=>eoB<|eoT<|coZ<|qR 1 [] kk fun wx kx=>wM (QBc k (by omega))<|qF [] kx fun wy ky=>Qf (fun y=>⟨k+1,l[k].1,y⟩) (key _ _ _ ky.touch.below ?_) (by show l.length-(k+1) < l.length-k;omega)) fun g3=>JC<|eoB<|eoT<|coZ<|qR 1 [] kj fun wx kx=>wM (QBc k (by omega))<|qF [] kx fun wy ky=>Qf (fun y=>⟨k+1,best,y⟩) (key _ _ _ ky.touch.below ?_) (by show l.length-(k+1) < l.length-k;omega)
       · exact (if_pos (by rw[decide_eq_true g1,decide_eq_true g2,g3];rfl)).symm
       · exact (if_neg (by rw[g3];simp)).symm
     · refine tell 28 (decide_eq_false g2)<|qE [] kg fun wh kh=>coF<|JC<|eoB<|eoT<|coZ<|qR 1 [] kh fun wx kx=>wM (QBc k (by omega))<|qF [] kx fun wy ky=>Qf (fun y=>⟨k+1,best,y⟩) (key _ _ _ ky.touch.below ?_) (by show l.length-(k+1) < l.length-k;omega)
       exact (if_neg (by rw[decide_eq_false g2];simp)).symm
   · refine tell 23 (decide_eq_false g1)<|qE [] kf fun wh kh=>coF<|JC<|eoB<|eoT<|coZ<|qR 1 [] kh fun wx kx=>wM (QBc k (by omega))<|qF [] kx fun wy ky=>Qf (fun y=>⟨k+1,best,y⟩) (key _ _ _ ky.touch.below ?_) (by show l.length-(k+1) < l.length-k;omega)
     exact (if_neg (by rw[decide_eq_false g1];simp)).symm
 · have hkl:k=l.length:=by have:¬((k:Int) < (l.length:Int)):=by simpa using hge
                           omega
   subst hkl
   rw[List.take_length,QNe h16 hm ho hr] at hbest
   have hB3:=bOn hB2 kc
   have hown3:=own_below hown2 kc.touch.below
   refine coS<|qQ [] kc fun wd kd=>coI (best==65536) (fun g=>?_) fun g=>JC<|eoT ?_
   · have hrest:rest=[]:=by
      have g:best=65536:=by simpa using g
      cases rest with
      | nil=>rfl
      | cons d r =>
        have h:=(QCN h16 d (by rw[hm];simp)).2.1
        rw[g] at hbest
        simp only at hbest
        omega
     subst hrest
     rw[List.append_nil] at hm
     rw[hm]
     exact qQ [] kd fun we ke=>JE<|Je<|QG<|Je<|QG<|JR v ⟨v,rfl,own_below hown2 ke.touch.below,bOn hB2 ke⟩
   · obtain⟨d,r,rfl⟩:∃ d r,rest=d :: r:=by
      cases rest with
      | nil=>simp only at hbest;rw[hbest] at g;simp at g
      | cons d r=>exact⟨d,r,rfl⟩
     simp only at hbest
     subst hbest
     have hd:d∈mkS l:=by rw[hm];simp
     have hc:=QCN h16 d hd
     have hg:QP l d.1=d.2:=((QAq l d).1 hd).1
     refine coR<|qR 2 [] kd fun we ke=>wM (QBL (QMB d.1 ⟨hc.1,hc.2.1⟩ _))<|qR 2 [] ke fun wf kf=>wM (QBL (QMB d.1 ⟨hc.1,hc.2.1⟩ _))<|kO (QCw A cap l d.1 hl _ ((hin.below (bOn hB2 kf)).more (bOn hB2 kf).size)) fun wg hbg=>qR 1 [] (kf.below hbg) fun wh kh=>wM (X7 (bsC d.1 (QP l d.1) wh))<|?_
     have hlen:out.length+1≤1000000000:=by
      have h1:=QHH l
      rw[hm] at h1
      simp at h1
      omega
     refine qAc (.tmp 42) (.tmp 50) w.heap.size _ v out.length out (some ⟨wh.heap.size,0,none⟩) 1 [(d.1,QP l d.1)] (ja (bOn hB2 kh) _).size ((own_below hown2 kh.touch.below).alloc _) (QCh wh d.1 (QP l d.1) _) (fun e=>by cases e) (by show out.length+1≤_;omega) fun v' wi own' hgr=>?_
     have hBi:=qo (ja (bOn hB2 kh) _) hgr ((own_below hown2 kh.touch.below).alloc _) (Nat.le_refl _) (ja (bOn hB2 kh) _).size
     refine qE [] (Many.begin wi) fun wj kj=>coZ<|qF [] kj fun wk kk=>eoB<|Qf (fun y=>⟨out++[d],d.1,v',y⟩) ⟨bOn hBi kk,?_,⟨by show -1≤d.1;have:=hc.1;omega,hc.2.1⟩,r,?_,?_,?_⟩ ?_
     · rw[hg] at own'
       show wk.ownsRow _ _ _ v' (out++[d]).length _
       rw[List.length_append]
       exact own_below own' kk.touch.below
     · show mkS l=(out++[d])++r
       rw[hm,List.append_assoc];rfl
     · intro p hp
       show p.1≤d.1
       rcases List.mem_append.1 hp with hp|hp
       · have h1:=ho p hp
         have h2:=hr d (by simp)
         omega
       · simp at hp;rw[hp];omega
     · intro p hp
       have hs:Srt (out++d :: r):=by rw[←hm];exact QA7 l
       exact (List.pairwise_cons.1 (List.pairwise_append.1 hs).2.1).1 p hp
     · show (mkS l).length-(out++[d]).length < (mkS l).length-out.length
       rw[hm]
       simp
       omega
theorem QKX (A:Option Addr)(cap:Nat)(l:List (Int×Int))(hl:l.length≤1000000000)(h16:Jk l)(w:World)(hin:CellsIn w w.heap.size A l) :
 Calls Tryz.prog 28 #[.slice A l.length cap] w fun e w'=>∃ A' c,e=.returned (.slice A' (mkS l).length c)∧CellsIn w' w'.heap.size A' (mkS l)∧(mkS l).length≤c∧(A'=none→c=0)∧Below w.heap.size w w' :=
 (QJw A cap l hl h16 w hin).mono fun e w' ⟨v,h1,h2,h3⟩=>by
   obtain⟨A',c,rfl,hc,hci,hn⟩:=jV h2
   exact⟨A',c,h1,hci,hc,hn,h3⟩
abbrev zZ (rs:List RowK):List Nat:=rs.map (·.b)
theorem Many.rebase {w0 w:World} {L:List Nat} {rs:List RowK}(h:Many w0 L rs w):Many w (zZ rs) rs w :=
 ⟨h.rows,h.dis,fun i r hr=>.inl (List.mem_map.2 ⟨r,List.mem_of_getElem? hr,rfl⟩),.refl ..⟩
theorem Many.anew {w0 w w':World} {L:List Nat} {rs:List RowK} {b:Nat}(h:Many w0 L rs w)(k:w.grownBy w' (some b))(hn:∀ (i:Nat) (r:RowK),rs[i]? = some r→r.b≠b):Many w' (zZ rs) rs w' :=
 ⟨fun i r hr=>by obtain⟨full,h1,h2⟩:=h.rows i r hr;exact⟨full,h1.of (k.block r.b h1.lt (by simpa using hn i r hr)),h2⟩,h.dis,fun i r hr=>.inl (List.mem_map.2 ⟨r,List.mem_of_getElem? hr,rfl⟩),.refl ..⟩
theorem Many.rebaseL {w0 w:World} {L:List Nat} {rs:List RowK}(h:Many w0 L rs w)(L':List Nat)(e:zZ rs=L':=by kernel_rfl):Many w L' rs w:=e▸h.rebase
theorem Many.anewL {w0 w w':World} {L:List Nat} {rs:List RowK} {b:Nat}(h:Many w0 L rs w)(k:w.grownBy w' (some b))(L':List Nat)(hn:∀ x∈L',x≠b)(e:zZ rs=L':=by kernel_rfl):Many w' L' rs w':=by
 subst e
 exact h.anew k fun i r hr=>hn _ (List.mem_map.2 ⟨r,List.mem_of_getElem? hr,rfl⟩)
theorem Touch.underL {L:List Nat} {n:Nat} {w w' w1:World}(h:Touch L w w')(k:Below n w1 w)(hL:∀ b∈L,n≤b)(hn:n≤w.heap.size):Below n w1 w' :=
 ⟨h.os.trans k.os,h.tape.trans k.tape,h.output.trans k.output,Nat.le_trans k.size h.size,fun b hb=>(h.block b (Nat.lt_of_lt_of_le hb hn) fun hm=>by have:=hL b hm;omega).trans (k.block b hb)⟩
theorem Many.low {w0 w:World} {rs:List RowK}(h:Many w0 [] rs w):∀ b∈zZ rs,w0.heap.size≤b:=fun b hb=>by
 obtain⟨r,hr,rfl⟩:=List.mem_map.1 hb
 obtain⟨i,hi⟩:=List.getElem?_of_mem hr
 rcases h.own i r hi with e|e
 · cases e
 · exact e
theorem jT {P:Program}(W:World)(t kt et:TypeId)(ht:P.underlying t=some (.map kt et))(hk:P.underlying kt=some (.int .i64))(es:List MapEntry)(clock:Nat)(n:Int)(val:Value)(b:Nat)
 (hb:W.heap[b]? = some (.map es.toArray clock))(hnew:Instr.findNow (.int .i64) (.int .i64 n) es 0=some none) :
 ∃ W',(Instr.mapUpdate t (.map (some b)) (.int .i64 n) val).run P W=.ok () W'∧W'.heap[b]? = some (.map (es++[({ key:=.int .i64 n,val:=val,born:=clock }:MapEntry)]).toArray (clock+1))∧W.grownBy W' (some b):=by
 have hlt:=(Array.getElem?_eq_some_iff.1 hb).1
 refine⟨{ W with heap:=W.heap.setIfInBounds b (.map (es++[({ key:=.int .i64 n,val:=val,born:=clock }:MapEntry)]).toArray (clock+1)) },?_,by simp[hlt],⟨rfl,rfl,rfl,by simp,fun i hi hne=>by
  show (W.heap.setIfInBounds b _)[i]? = _
  rw[Array.getElem?_setIfInBounds]
  rw[if_neg (fun e=>hne (by rw[e]))]⟩⟩
 simp[Instr.mapUpdate,run_underlying ht,MapKept.run_getObj_map hb,MapKept.run_checkKey hk (k:=.int .i64 n) (by simp[MapKept.IsKey]) false 9999,MapKept.run_findKey hk hnew,MapKept.run_setObj_map _ hb,Result.andThen]
section
variable {P:Program} {ρ:Operand→Value} {o:Oper} {x y z:Operand} {V W R U:Value}
theorem QHb {t:TypeId} {w w':World}(hl:(Instr.mapUpdate t V W U).run P w=.ok () w')(ho:o.op=.insert t x y z:=by exact rfl)(hx:ρ x=V:=by kernel_rfl)(hy:ρ y=W:=by kernel_rfl)(hz:ρ z=U:=by kernel_rfl):(execOp ρ o).run P w=.ok .skip w':=by
 unfold execOp
 simp only[ho,hx,hy,hz,Sem.run_bind,Sem.run_pure,hl,Result.andThen_ok]
end
@[reducible] def J9 (g:Rg)(M P:Value):Array Value:=#[.int .u16 g.af,.int .u16 g.bc,.int .u16 g.de,.int .u16 g.hl,.int .u16 g.af2,.int .u16 g.bc2,.int .u16 g.de2,.int .u16 g.hl2,.int .u16 g.ix,.int .u16 g.iy,.int .u16 g.sp,.int .u16 g.pc,.int .u16 g.wz,
 .int .u8 g.i,.int .u8 g.r,.bool g.iff1,.bool g.iff2,.bool g.halted,.bool g.late,.int .i64 g.mode,M,P]
@[reducible] def Xd (g:Rg)(M P:Value):Value:=.agg (J9 g M P)
@[reducible] def Xs (g:Rg)(M P:Value)(k n:Int):Array Value:=#[.int .u16 g.af,.int .u16 g.bc,.int .u16 g.de,.int .u16 g.hl,.int .u16 g.af2,.int .u16 g.bc2,.int .u16 g.de2,.int .u16 g.hl2,.int .u16 g.ix,.int .u16 g.iy,.int .u16 g.sp,.int .u16 g.pc,.int .u16 g.wz,
 .int .u8 g.i,.int .u8 g.r,.bool g.iff1,.bool g.iff2,.bool g.halted,.bool g.late,.int .i64 g.mode,M,P,.int .i64 k,.int .i64 n]
structure Kept (S:Nat→Prop)(w w':World):Prop where
 os:w'.os=w.os
 tape:w'.tape=w.tape
 output:w'.output=w.output
 size:w.heap.size≤w'.heap.size
 block:∀ b,b < w.heap.size→¬S b→w'.heap[b]? = w.heap[b]?
theorem Kept.refl (S:Nat→Prop)(w:World):Kept S w w:=⟨rfl,rfl,rfl,Nat.le_refl _,fun _ _ _=>rfl⟩
theorem Kept.trans {S T U:Nat→Prop} {a b c:World}(h:Kept S a b)(k:Kept T b c)(hS:∀ x,S x→U x)(hT:∀ x,x < a.heap.size→T x→U x):Kept U a c :=
 ⟨k.os.trans h.os,k.tape.trans h.tape,k.output.trans h.output,Nat.le_trans h.size k.size,fun i hi n=>(k.block i (Nat.lt_of_lt_of_le hi h.size) fun e=>n (hT i hi e)).trans (h.block i hi fun e=>n (hS i e))⟩
theorem Kept.mono {S U:Nat→Prop} {a b:World}(h:Kept S a b)(hS:∀ x,x < a.heap.size→S x→U x):Kept U a b:=⟨h.os,h.tape,h.output,h.size,fun i hi n=>h.block i hi fun e=>n (hS i hi e)⟩
theorem Kept.of_below {S:Nat→Prop} {w w':World}(h:Below w.heap.size w w'):Kept S w w':=⟨h.os,h.tape,h.output,h.size,fun b hb _=>h.block b hb⟩
theorem Kept.of_touch {L:List Nat} {w w':World}(h:Touch L w w'):Kept (fun b=>b∈L) w w':=⟨h.os,h.tape,h.output,h.size,fun b hb n=>h.block b hb n⟩
theorem Kept.of_grown {r:Option Nat} {w w':World}(h:w.grownBy w' r):Kept (fun b=>r=some b) w w':=⟨h.os,h.tape,h.output,h.size,fun b hb n=>h.block b hb fun e=>n e.symm⟩
theorem Kept.row {S:Nat→Prop} {w w':World}(k:Kept S w w'){b:Nat} {t:TypeId} {cs:Array Value}(h:Row w b t cs)(n:¬S b):Row w' b t cs:=(k.block b h.lt n).trans h
theorem Kept.own {S:Nat→Prop} {w w':World}(k:Kept S w w'){b:Nat} {e:TypeId} {s:Nat} {v:Value} {n:Nat} {xs:List Value}(h:w.ownsRow b e s v n xs)(hn:∀ x,v.ownBlock=some x→¬S x):w'.ownsRow b e s v n xs:=by
 obtain⟨h1,h2⟩:=h
 refine⟨h1,?_⟩
 rcases h2 with h2|⟨g,cap,cur,rfl,hb,hg,rest⟩
 · exact .inl h2
 · exact .inr ⟨g,cap,cur,rfl,hb,(k.block g (Array.getElem?_eq_some_iff.1 hg).1 (hn g rfl)).trans hg,rest⟩
theorem Kept.low {S:Nat→Prop} {w0 w w':World} {B:Nat}(h:Below B w0 w)(k:Kept S w w')(hB:B≤w.heap.size)(hS:∀ b,S b→B≤b):Below B w0 w' :=
 ⟨k.os.trans h.os,k.tape.trans h.tape,k.output.trans h.output,Nat.le_trans h.size k.size,fun b hb=>(k.block b (Nat.lt_of_lt_of_le hb hB) fun e=>by have:=hS b e;omega).trans (h.block b hb)⟩
theorem Kept.below {S:Nat→Prop} {w w':World}(k:Kept S w w')(hS:∀ b,S b→w.heap.size≤b):Below w.heap.size w w':=⟨k.os,k.tape,k.output,k.size,fun b hb=>k.block b hb fun e=>by have:=hS b e;omega⟩
theorem Many.these {w:World} {rs:List RowK}(hr:QPt w rs)(hd:Dis rs)(L:List Nat)(e:zZ rs=L:=by kernel_rfl):Many w L rs w:=⟨hr,hd,fun i r h=>.inl (e▸List.mem_map.2 ⟨r,List.mem_of_getElem? h,rfl⟩),.refl ..⟩
theorem QCO (cs:Array Value):Kn (cs.toList.map some) cs:=⟨by simp,fun k v hv=>by
 rw[List.getElem?_map] at hv
 cases hl:cs.toList[k]? with
 | none=>rw[hl] at hv;cases hv
 | some u=>rw[hl] at hv;injection hv with hv;injection hv with hv;subst hv;simpa using hl⟩
theorem Many.two {w:World} {a b:Nat} {t u:TypeId} {cs ds:Array Value}(ha:Row w a t cs)(hb:Row w b u ds)(n:a≠b):Many w [a,b] [⟨a,t,cs.toList.map some⟩,⟨b,u,ds.toList.map some⟩] w:=by
 refine Many.these (fun i r hi=>?_) (fun i j r q hi hj hij=>?_) _ rfl
 · match i,hi with
   | 0,hi=>cases hi;exact⟨cs,ha,QCO cs⟩
   | 1,hi=>cases hi;exact⟨ds,hb,QCO ds⟩
 · match i,j,hi,hj with
   | 0,0,_,_=>exact absurd rfl hij
   | 1,1,_,_=>exact absurd rfl hij
   | 0,1,hi,hj=>cases hi;cases hj;exact n
   | 1,0,hi,hj=>cases hi;cases hj;exact n.symm
theorem Many.three {w:World} {a b c:Nat} {t u v:TypeId} {cs ds es:Array Value}(ha:Row w a t cs)(hb:Row w b u ds)(hc:Row w c v es)(n:a≠b)(m:a≠c)(l:b≠c):Many w [a,b,c] [⟨a,t,cs.toList.map some⟩,⟨b,u,ds.toList.map some⟩,⟨c,v,es.toList.map some⟩] w:=by
 refine Many.these (fun i r hi=>?_) (fun i j r q hi hj hij=>?_) _ rfl
 · match i,hi with
   | 0,hi=>cases hi;exact⟨cs,ha,QCO cs⟩
   | 1,hi=>cases hi;exact⟨ds,hb,QCO ds⟩
   | 2,hi=>cases hi;exact⟨es,hc,QCO es⟩
 · match i,j,hi,hj with
   | 0,0,_,_=>exact absurd rfl hij
   | 1,1,_,_=>exact absurd rfl hij
   | 2,2,_,_=>exact absurd rfl hij
   | 0,1,hi,hj=>cases hi;cases hj;exact n
   | 1,0,hi,hj=>cases hi;cases hj;exact n.symm
   | 0,2,hi,hj=>cases hi;cases hj;exact m
   | 2,0,hi,hj=>cases hi;cases hj;exact m.symm
   | 1,2,hi,hj=>cases hi;cases hj;exact l
   | 2,1,hi,hj=>cases hi;cases hj;exact l.symm
def MemF (B:Nat)(w:World)(v:Value)(m:List (Int×Int))(ob:Option Nat):Prop :=
 (ob=none∧∃ A,v=.slice A m.length m.length∧CellsIn w B A m∧(A=none→m=[]))∨(ob=v.ownBlock∧w.ownsRow B 55 2 v m.length (cvs m))
def PorF (B:Nat)(w:World)(v:Value)(p:List Int):Prop:=∃ A cap,v=.slice A p.length cap∧p.length≤cap∧BytesIn w B A p∧(A=none→cap=0)
theorem MemF.slice {B:Nat} {w:World} {v:Value} {m:List (Int×Int)} {ob:Option Nat}(h:MemF B w v m ob)(hB:B≤w.heap.size):∃ A c,v=.slice A m.length c∧CellsIn w w.heap.size A m:=by
 rcases h with ⟨-,A,h1,h2,-⟩|⟨-,h⟩
 · exact⟨A,_,h1,h2.more hB⟩
 · obtain⟨A,c,h1,-,h2,-⟩:=jV h
   exact⟨A,c,h1,h2⟩
theorem MemF.lt {B:Nat} {w:World} {v:Value} {m:List (Int×Int)} {ob:Option Nat}(h:MemF B w v m ob):∀ b,ob=some b→B≤b∧b < w.heap.size:=by
 rcases h with ⟨h,-⟩|⟨h1,h2⟩
 · intro b e;rw[h] at e;cases e
 · intro b e
   exact h2.lt b (h1▸e)
theorem MemF.kept {S:Nat→Prop} {B:Nat} {w w':World} {v:Value} {m:List (Int×Int)} {ob:Option Nat}(h:MemF B w v m ob)(k:Kept S w w')(hB:B≤w.heap.size)(hS:∀ b,S b→B≤b)(hn:∀ b,ob=some b→¬S b):MemF B w' v m ob:=by
 rcases h with ⟨h0,A,h1,h2,h3⟩|⟨h1,h2⟩
 · exact .inl ⟨h0,A,h1,h2.keep fun b hb=>k.block b (by omega) fun e=>by have:=hS b e;omega,h3⟩
 · exact .inr ⟨h1,k.own h2 fun x e=>hn x (h1.trans e)⟩
theorem PorF.kept {S:Nat→Prop} {B:Nat} {w w':World} {v:Value} {p:List Int}(h:PorF B w v p)(k:Kept S w w')(hB:B≤w.heap.size)(hS:∀ b,S b→B≤b):PorF B w' v p:=by
 obtain⟨A,cap,h1,h2,h3,h4⟩:=h
 exact⟨A,cap,h1,h2,h3.keep fun b hb=>k.block b (by omega) fun e=>by have:=hS b e;omega,h4⟩
structure Jny (B J:Nat)(w:World)(g:Rg)(M P:Value)(ob:Option Nat)(m:List (Int×Int))(p:List Int)(k n:Int):Prop where
 row:Row w J 120 (Xs g M P k n)
 low:B≤J
 mem:MemF B w M m ob
 off:ob≠some J
 por:PorF B w P p
theorem Jny.lt {B J:Nat} {w:World} {g:Rg} {M P:Value} {ob:Option Nat} {m:List (Int×Int)} {p:List Int} {k n:Int}(h:Jny B J w g M P ob m p k n):B≤w.heap.size:=Nat.le_of_lt (Nat.lt_of_le_of_lt h.low h.row.lt)
theorem Jny.kept {S:Nat→Prop} {B J:Nat} {w w':World} {g:Rg} {M P:Value} {ob:Option Nat} {m:List (Int×Int)} {p:List Int} {k n:Int}(h:Jny B J w g M P ob m p k n)(q:Kept S w w')(hS:∀ b,S b→B≤b)(hJ:¬S J)(hn:∀ b,ob=some b→¬S b):Jny B J w' g M P ob m p k n :=
 ⟨q.row h.row hJ,h.low,h.mem.kept q h.lt hS hn,h.off,h.por.kept q h.lt hS⟩
def JS (J:Nat)(ob:Option Nat)(b:Nat):Prop:=b=J∨ob=some b
theorem Jny.js {B J:Nat} {w:World} {g:Rg} {M P:Value} {ob:Option Nat} {m:List (Int×Int)} {p:List Int} {k n:Int}(h:Jny B J w g M P ob m p k n):∀ b,JS J ob b→B≤b:=fun b e=>by
 rcases e with rfl|e
 · exact h.low
 · exact (h.mem.lt b e).1
def NewR (w:World)(ob ob':Option Nat):Prop:=ob'=ob∨∃ b,ob'=some b∧w.heap.size≤b
section
variable {P:Program} {ops:Array Oper} {Q:Exit→Act→World→Prop} {base:List Value} {rest:List Oper} {l:JY} {w:World} {o:Oper}
theorem QTj (s x:Operand)(t e:TypeId)(size bytes:Nat)(z:Value)(bs:Nat)(v:Value)(n:Nat)(xs:List Value)(p:Addr)(m c:Nat)(news:List Value)(hbs:bs≤w.heap.size)
 (hown:w.ownsRow bs e size v n xs)(hl:news.length=m*size)(hnews:∀ j u,news[j]? = some u→w.cell? (p.add j)=some u)(h1:∀ u∈news,u.oneCell'=true)(hmax:n+m≤1000000)(hby:bytes≤1000)
 (h:∀ v' w',w'.ownsRow bs e size v' (n+m) (xs++news)→w.grownBy w' v.ownBlock→NewR w v.ownBlock v'.ownBlock→WO P ops Q base rest (Qz o.dst v' l) w')
 (hu:P.underlying t=some (.slice e):=by kernel_rfl)(hi:(P.info? e).map (fun i=>(i.zero,i.size,i.bytes))=some (some z,size,bytes):=by kernel_rfl)(hz:z.cells.size=size:=by kernel_rfl)(h0:0 < size:=by decide)
 (ho:o.op=.call { callee:=.builtin .append,args:=#[s,x],argTypes:=#[t,t] }:=by exact rfl)(hg:o.guard=none:=by exact rfl)(hs:evO base l s=v:=by kernel_rfl)(hx:evO base l x=.slice (some p) m c:=by kernel_rfl)(hd:Q2 o.dst base.length=true:=by kernel_rfl):WO P ops Q base (o :: rest) l w :=
 ⟨fun hin=>⟨by
  obtain⟨i0,hi0,hz0,hz1,hz2⟩:=info_parts hi
  have hb:(n+m)*bytes≤140737488355328:=by
   have:(n+m)*bytes≤1000000*1000:=Nat.mul_le_mul hmax hby
   omega
  refine wpList_append_own_at _ hg s x t ho bs e i0 z size bytes hu hi0 hz0 hz1 hz2 hz h0 v n xs (by rw[Jj hin];exact hs) hown p m c news (by rw[Jj hin];exact hx) hl hnews h1 (by simp only[maxLen];omega) hb hbs ?_
  intro v' w' own' hgr _ hat
  rw[J3]
  refine ((h v' w' own' hgr ?_).h (XI hd hin)).h
  rcases hat with e|e
  · exact .inl e
  · exact .inr ⟨_,e,Nat.le_refl _⟩⟩⟩
theorem QWL (s x:Operand)(t e:TypeId)(size bytes:Nat)(z:Value)(A:Option Addr)(n:Nat)(xs:List Value)(p:Addr)(m c:Nat)(news:List Value)
 (hA:A=none→n=0)(hlo:xs.length=n*size)(hold:∀ b,A=some b→∀ j u,xs[j]? = some u→w.cell? (b.add j)=some u)(hl:news.length=m*size)(hnews:∀ j u,news[j]? = some u→w.cell? (p.add j)=some u)(h1:∀ u∈news,u.oneCell'=true)(hm:0 < m)(hmax:n+m≤1000000)(hby:bytes≤1000)
 (h:∀ v' w',w'.ownsRow w.heap.size e size v' (n+m) (xs++news)→w.grownBy w' none→WO P ops Q base rest (Qz o.dst v' l) w')
 (hu:P.underlying t=some (.slice e):=by kernel_rfl)(hi:(P.info? e).map (fun i=>(i.zero,i.size,i.bytes))=some (some z,size,bytes):=by kernel_rfl)(hz:z.cells.size=size:=by kernel_rfl)(h0:0 < size:=by decide)
 (ho:o.op=.call { callee:=.builtin .append,args:=#[s,x],argTypes:=#[t,t] }:=by exact rfl)(hg:o.guard=none:=by exact rfl)(hs:evO base l s=.slice A n n:=by kernel_rfl)(hx:evO base l x=.slice (some p) m c:=by kernel_rfl)(hd:Q2 o.dst base.length=true:=by kernel_rfl):WO P ops Q base (o :: rest) l w :=
 ⟨fun hin=>⟨by
  obtain⟨i0,hi0,hz0,hz1,hz2⟩:=info_parts hi
  have hb:(n+m)*bytes≤140737488355328:=by
   have:(n+m)*bytes≤1000000*1000:=Nat.mul_le_mul hmax hby
   omega
  refine wpList_append_grows w hg s x t ho e i0 z size bytes hu hi0 hz0 hz1 hz2 hz h0 A n n xs (by rw[Jj hin];exact hs) (fun e=>⟨hA e,hA e⟩) hlo hold p m c news (by rw[Jj hin];exact hx) hl hnews h1 (by omega) (by simp only[maxLen];omega) hb ?_
  intro v' w' own' hgr
  rw[J3]
  exact ((h v' w' own' hgr).h (XI hd hin)).h⟩⟩
end
theorem Row.values {w:World} {b:Nat} {t:TypeId} {cs:Array Value}(h:Row w b t cs):∀ j u,cs.toList[j]? = some u→w.cell? ((⟨b,0,none⟩:Addr).add j)=some u:=fun j u hu=>by
 rw[show (⟨b,0,none⟩:Addr).add j=⟨b,j,none⟩ by simp[Addr.add];omega,h.cell j]
 simpa using hu
theorem Many.anewK {w0 w w':World} {L:List Nat} {rs:List RowK} {S:Nat→Prop}(h:Many w0 L rs w)(k:Kept S w w')(L':List Nat)(hn:∀ b∈L',¬S b)(e:zZ rs=L':=by kernel_rfl):Many w' L' rs w':=by
 rw[←e] at hn
 refine Many.these (fun i r hr=>?_) h.dis L' e
 obtain⟨full,h1,h2⟩:=h.rows i r hr
 exact⟨full,k.row h1 (hn _ (List.mem_map.2 ⟨r,List.mem_of_getElem? hr,rfl⟩)),h2⟩
theorem QOb {w:World} {bs:Nat} {e:TypeId} {s:Nat} {v:Value} {n:Nat} {xs:List Value}(h:w.ownsRow bs e s v n xs)(hn:0 < n):∃ b,v.ownBlock=some b∧bs≤b∧b < w.heap.size:=by
 rcases h.2 with ⟨-,h0⟩|⟨g,cap,cur,rfl,hb,hg,-⟩
 · omega
 · exact⟨g,rfl,hb,(Array.getElem?_eq_some_iff.1 hg).1⟩
section
variable {ops:Array Oper} {Q:Exit→Act→World→Prop} {base:List Value} {rest:List Oper} {l:JY} {w:World} {o:Oper}
theorem qMem (s x:Operand)(B:Nat)(v:Value)(m:List (Int×Int))(ob:Option Nat)(p:Addr)(c:Nat)(d:Int×Int)(hB:B≤w.heap.size)(hm:MemF B w v m ob)(hl:m.length≤900000)(hnews:∀ j u,(cvs [d])[j]? = some u→w.cell? (p.add j)=some u)
 (h:∀ v' w',w'.ownsRow B 55 2 v' (m++[d]).length (cvs (m++[d]))→Kept (fun b=>ob=some b) w w'→NewR w ob v'.ownBlock→WO Tryz.prog ops Q base rest (Qz o.dst v' l) w')
 (ho:o.op=.call { callee:=.builtin .append,args:=#[s,x],argTypes:=#[25,25] }:=by exact rfl)(hg:o.guard=none:=by exact rfl)(hs:evO base l s=v:=by kernel_rfl)(hx:evO base l x=.slice (some p) 1 c:=by kernel_rfl)(hd:Q2 o.dst base.length=true:=by kernel_rfl):WO Tryz.prog ops Q base (o :: rest) l w:=by
 have e:(m++[d]).length=m.length+1:=by simp
 rw[e,←QBN] at h
 rcases hm with ⟨rfl,A,rfl,hin,hA⟩|⟨rfl,hown⟩
 · exact QWL s x 25 55 2 4 (.agg #[.int .u16 0,.int .u8 0]) A m.length (cvs m) p 1 c (cvs [d]) (fun e=>by rw[hA e];rfl) (jW m) (fun q e=>by subst e;exact hin.values) rfl hnews (QD5 _) (by omega) (by omega) (by omega) (fun M' w2 own gr=>h M' w2 (QCH own hB) ((Kept.of_grown gr).mono fun x _ e=>e) (by
    obtain⟨y,e,hy,-⟩:=QOb own (by omega)
    exact .inr ⟨y,e,hy⟩)) (ho:=ho) (hg:=hg) (hs:=hs) (hx:=hx) (hd:=hd)
 · exact QTj s x 25 55 2 4 (.agg #[.int .u16 0,.int .u8 0]) B v m.length (cvs m) p 1 c (cvs [d]) hB hown rfl hnews (QD5 _) (by omega) (by omega) (fun M' w2 own gr hnew=>h M' w2 own (Kept.of_grown gr) hnew) (ho:=ho) (hg:=hg) (hs:=hs) (hx:=hx) (hd:=hd)
end
theorem Kept.drew {S:Nat→Prop}(w:World):Kept S w w.drew:=⟨rfl,rfl,rfl,Nat.le_refl _,fun _ _ _=>rfl⟩
def QAd (k:Int):Bool:=k==3||k==5
theorem QIX (k:Int)(w:World):Calls Tryz.prog 127 #[.int .i64 k] w fun e w'=>e=.returned (.bool (QAd k))∧Below w.heap.size w w':=by
 go_enter Tryz.func127,Tryz.ntmps127
 refine JA<|qQ [] (Many.begin w) fun w1 k1=>coR<|qR 3 [] k1 fun w2 k2=>?_
 by_cases h:k=3
 · refine tell 5 (show (k==3)=true by simp[h])<|qE [] k2 fun w3 k3=>JE<|JR (.bool true) ⟨by unfold QAd;simp[h],k3.touch.below⟩
 · refine tell 5 (show (k==3)=false by simp[h])<|qE [] k2 fun w3 k3=>JE<|JR (.bool (k==5)) ⟨by unfold QAd;simp[h],k3.touch.below⟩
section
variable {W:World} {B J:Nat} {g:Rg} {M P:Value} {ob:Option Nat} {m:List (Int×Int)} {p:List Int} {k n:Int}
theorem Jny.put {W':World} {M' P':Value} {ob':Option Nat} {m':List (Int×Int)} {p':List Int}(h:Jny B J W g M P ob m p k n)(hr:Row W' J 120 (Xs g M' P' k n))(hm:MemF B W' M' m' ob')(hob:ob'≠some J)(hp:PorF B W' P' p'):Jny B J W' g M' P' ob' m' p' k n:=⟨hr,h.low,hm,hob,hp⟩
theorem QNh (h:Jny B J W g M P ob m p k n):Calls Tryz.prog 140 #[pT J 0] W fun e W'=>e=.returned (.int .u8 (p.headD 255))∧∃ P',Jny B J W' g M P' ob m p.tail k n∧Kept (fun b=>b=J) W W':=by
 obtain⟨A,cap,rfl,hc,hin,hn⟩:=h.por
 have fin:∀ {W' P'},Row W' J 120 (Xs g M P' k n)→Touch [J] W W'→PorF B W P' p.tail→Jny B J W' g M P' ob m p.tail k n∧Kept (fun b=>b=J) W W':=fun hr ht hp=>by
  have q:Kept (fun b=>b=J) W _:=(Kept.of_touch ht).mono fun b _ e=>List.mem_singleton.1 e
  exact⟨h.put hr (h.mem.kept q h.lt (fun b e=>e▸h.low) fun b e x=>h.off (x▸e)) h.off (hp.kept q h.lt fun b e=>e▸h.low),q⟩
 go_enter Tryz.func140,Tryz.ntmps140
 cases p with
 | nil =>
   refine JA<|qQ [] (Many.start h.row) fun w1 k1=>coS<|qQ [0] k1 fun w2 k2=>coT<|qQ [] k2 fun w3 k3=>JE<|Je<|JR (.int .u8 255) ⟨rfl,_,fin (k3.row 0 (Xs g M (.slice A 0 cap) k n).toList (by kernel_rfl)) k3.touch ⟨A,cap,rfl,Nat.zero_le _,BytesIn.nil _ _ _,hn⟩⟩
 | cons x r =>
   obtain⟨q,rfl⟩:=hin.addr (k:=0) (by simp)
   have hlen:1≤(x :: r).length:=by simp
   have hr1:r.length≤cap-1:=by
    have:r.length+1≤cap:=hc
    omega
   refine JA<|qQ [] (Many.start h.row) fun w1 k1=>coS<|qQ [0] k1 fun w2 k2=>coK ((((x :: r).length:Nat):Int)==0) (fun e=>absurd e (by simp;omega)) fun _=>JC<|eoT<|coR<|qR 4 [0] k2 fun w3 k3=>?_
   have hin3:BytesIn w3 B (some q) (x :: r):=hin.keep fun b hb=>k3.touch.block b (by have:=h.lt;omega) (by simp;have:=h.low;omega)
   refine wM (Jm (ixB q (x :: r).length cap 0 (by simp) _))<|wM (Jc (BytesIn.ld hin3 (k:=0) (by simp)))<|qE [] k3 fun w4 k4=>coR<|qR 5 [0] k4 fun w5 k5=>wM (QCv (QMD (some q) (x :: r).length cap hlen hc _))<|qE [0] k5 fun w6 k6=>qQ [] k6 fun w7 k7=>JE<|JR (.int .u8 x) ⟨rfl,.slice (if cap=1 then some q else (some q).map (·.add 1)) r.length (cap-1),fin (k7.row 0 (Xs g M (.slice (if cap=1 then some q else (some q).map (·.add 1)) r.length (cap-1)) k n).toList (by kernel_rfl)) k7.touch ⟨_,_,rfl,hr1,hin.drop (k:=1) (by simp) hc,fun e=>by split at e<;>cases e⟩⟩
theorem QJq (h:Jny B J W g M P ob m p k n)(a b:Int)(hl:m.length≤900000):Calls Tryz.prog 141 #[pT J 0,.int .u16 a,.int .u8 b] W fun e W'=>e=.returned (.tuple #[])∧∃ M' ob',Jny B J W' g M' P ob' (m++[(a,b)]) p k n∧Kept (JS J ob) W W'∧NewR W ob ob':=by
 go_enter Tryz.func141,Tryz.ntmps141
 have hJ:=h.row.lt
 refine JA<|coZ<|qR 8 [0] (Many.start h.row) fun w1 k1=>wM (X7 (bsC a b w1)) ?_
 have q1:Kept (fun b=>b=J) W w1:=(Kept.of_touch k1.touch).mono fun b _ e=>List.mem_singleton.1 e
 have hB:=h.lt
 have hs1:=q1.size
 have m1:MemF B w1 M m ob:=h.mem.kept q1 hB (fun b e=>e▸h.low) fun b e x=>h.off (x▸e)
 have qa:Kept (fun _=>False) w1 (w1.alloc (.cells #[.int .u16 a,.int .u8 b] 55)):=.of_below (Below.alloc (Below.refl _ _) (Nat.le_refl _) _)
 have k2:=k1.allocO (.cells #[.int .u16 a,.int .u8 b] 55)
 refine qMem (.tmp 10) (.tmp 14) B M m ob ⟨w1.heap.size,0,none⟩ 1 (a,b) (by simp;omega) (m1.kept qa (by omega) (fun _ e=>e.elim) fun _ _ e=>e) hl (fun j u hu=>(Row.new w1 55 #[.int .u16 a,.int .u8 b]).values j u hu) fun M' w2 own q2 hnew=>?_
 have hoff:∀ x,M'.ownBlock=some x→x≠J:=fun x e=>by
  rcases hnew with e2|⟨y,e2,hy⟩
  · rw[e2] at e
    exact fun c=>h.off (c▸e)
  · rw[e2] at e
    injection e with e
    simp at hy
    omega
 obtain⟨A',c',rfl,-,-,-⟩:=jV own
 refine qF [0] (k2.anewK q2 [J] fun y hy e=>by rw[List.mem_singleton.1 hy] at e;exact h.off e) fun w3 k3=>eoV ?_
 have q3:=Kept.of_touch k3.touch
 have q12:Kept (JS J ob) W w2:=(q1.trans qa (fun x e=>e) fun _ _ e=>e.elim).trans q2 (fun x e=>.inl e) fun x _ e=>.inr e
 have q13:Kept (JS J ob) W w3:=q12.trans q3 (fun x e=>e) fun x hx e=>.inl (List.mem_singleton.1 e)
 have own3:=q3.own own fun x e c=>hoff x e (List.mem_singleton.1 c)
 refine⟨rfl,.slice A' (m++[(a,b)]).length c',_,h.put (k3.row 0 (Xs g (.slice A' (m++[(a,b)]).length c') P k n).toList (by kernel_rfl)) (.inr ⟨rfl,own3⟩) (fun e=>hoff J e rfl) (h.por.kept q13 hB h.js),q13,?_⟩
 rcases hnew with e|⟨y,e,hy⟩
 · exact .inl e
 · refine .inr ⟨y,e,?_⟩
   simp at hy
   omega
end
section
variable {W:World} {B J:Nat} {g:Rg} {M P:Value} {ob:Option Nat} {m:List (Int×Int)} {p:List Int} {k n:Int}
theorem Jny.bel {W':World}(h:Jny B J W g M P ob m p k n)(q:Below W.heap.size W W'):Jny B J W' g M P ob m p k n :=
 h.kept (S:=fun _=>False) (Kept.of_below q) (fun _ e=>e.elim) (fun e=>e) (fun _ _ e=>e)
theorem Jny.re {S:Nat→Prop} {W':World}(h:Jny B J W g M P ob m p k n)(q:Kept S W W')(hr:Row W' J 120 (Xs g M P k n))(hS:∀ b,S b→B≤b)(hn:∀ b,ob=some b→¬S b):Jny B J W' g M P ob m p k n :=
 h.put hr (h.mem.kept q h.lt hS hn) h.off (h.por.kept q h.lt hS)
theorem Jny.get (h:Jny B J W g M P ob m p k n)(a:Int)(hl:m.length≤900000):Calls Tryz.prog 139 #[M,.int .u16 a] W fun e W'=>e=.returned (.int .u8 (QP m a))∧Below W.heap.size W W':=by
 obtain⟨A,c,rfl,hin⟩:=h.mem.slice h.lt
 exact QPW A c m a (by omega) W hin
theorem QIZ (h:Jny B J W g M P ob m p k n)(c:Cy)(v:Int)(hl:m.length≤900000):Calls Tryz.prog 126 #[pT J 0,cyV c,.int .u8 v] W fun e W'=>e=.returned (.int .u8 (qc c v m p))∧∃ M' P' ob',Jny B J W' g M' P' ob' (Zj c m) (jP c p) k n∧Kept (JS J ob) W W'∧NewR W ob ob':=by
 go_enter Tryz.func126,Tryz.ntmps126
 have hJ:=h.row.lt
 have fin:∀ {W':World} {V:Int} {M' P' ob'},qc c v m p=V→Jny B J W' g M' P' ob' (Zj c m) (jP c p) k n→Kept (JS J ob) W W'→NewR W ob ob'→(Ending.returned (.int .u8 V)=Ending.returned (.int .u8 (qc c v m p)))∧∃ M' P' ob',Jny B J W' g M' P' ob' (Zj c m) (jP c p) k n∧Kept (JS J ob) W W'∧NewR W ob ob' :=
  fun e h1 h2 h3=>⟨by rw[e],_,_,_,h1,h2,h3⟩
 have same:c.kind≠3→c.kind≠4→Zj c m=m∧jP c p=p:=fun h3 h4=>⟨by unfold Zj;rw[if_neg h3],by unfold jP;rw[if_neg h4]⟩
 have two:∀ {w2},Many W [] [⟨W.heap.size,30,(cyC c).toList.map some⟩] w2→Many w2 [J,W.heap.size] [⟨J,120,(Xs g M P k n).toList.map some⟩,⟨W.heap.size,30,(cyC c).toList.map some⟩] w2:=fun {w2} k2 =>
  Many.two (h.bel k2.touch.below).row (k2.row 0 (cyC c).toList rfl) (by omega)
 have j2:∀ {w2 w3},Many W [] [⟨W.heap.size,30,(cyC c).toList.map some⟩] w2→Many w2 [J,W.heap.size] [⟨J,120,(Xs g M P k n).toList.map some⟩,⟨W.heap.size,30,(cyC c).toList.map some⟩] w3→Jny B J w3 g M P ob m p k n∧Kept (JS J ob) W w3:=fun {w2 w3} k2 k3=>by
  have q:=Kept.of_touch k3.touch
  have hb:=k2.touch.below
  refine⟨(h.bel hb).re q (k3.row 0 (Xs g M P k n).toList rfl) (fun b e=>?_) (fun b e x=>?_),(Kept.of_below (S:=JS J ob) hb).trans q (fun _ e=>e) (fun x hx e=>?_)⟩
  · have:=h.lt
    rcases List.mem_cons.1 e with rfl|e
    · exact h.low
    · rw[List.mem_singleton.1 e];exact h.lt
  · rcases List.mem_cons.1 x with rfl|x
    · exact h.off e
    · have:=(h.mem.lt b e).2
      have:=List.mem_singleton.1 x
      omega
  · rcases List.mem_cons.1 e with e|e
    · exact .inl e
    · have:=List.mem_singleton.1 e
      omega
 refine JA<|qQ [] (Many.begin W) fun w1 k1=>coS<|qQ [0] k1 fun w2 k2=>coB<|coS<|qQ [] k2 fun w3 k3=>coI (c.kind==1) (fun h1=>JC<|eoT<|coJ (c.kind==1) (fun e=>by rw[h1] at e;cases e) fun _=>?_) fun h1=>coZ<|qF [] k3 fun w3 k3=>eoT<|coI (c.kind==2) (fun h2=>?_) fun h2=>qQ [] k3 fun w4 k4=>coI (c.kind==4) (fun h4=>?_) fun h4=>qQ [] k4 fun w5 k5=>coI (c.kind==6) (fun h6=>?_) fun h6=>qQ [] k5 fun w6 k6=>coI (c.kind==3) (fun h3=>?_) fun h3=>?_
 · have h1:c.kind=1:=by simpa using h1
   refine qP 7 (two (k3.take 1 _)) fun w5 k5=>qD 0 [0,1,2,3] k5<|qD 1 [4,5] k5<|qDc 6 ((j2 (k3.take 1 _) (k5.take 2 _)).1.get c.addr hl) k5 fun w6 k6=>poE<|qE [] k6 fun w7 k7=>JE<|QG<|Je<|JR (.int .u8 (QP m c.addr)) (fin (M':=M) (P':=P) (ob':=ob) (by unfold qc;rw[if_pos (.inl h1)]) ?_ (j2 (k3.take 1 _) (k7.take 2 _)).2 (.inl rfl))
   obtain⟨e1,e2⟩:=same (by omega) (by omega)
   rw[e1,e2];exact (j2 (k3.take 1 _) (k7.take 2 _)).1
 · have h2:c.kind=2:=by simpa using h2
   refine qP 7 (two (k3.take 1 _)) fun w5 k5=>qD 0 [0,1,2,3] k5<|qD 1 [4,5] k5<|qDc 6 ((j2 (k3.take 1 _) (k5.take 2 _)).1.get c.addr hl) k5 fun w6 k6=>poE<|qE [] k6 fun w7 k7=>JE<|QG<|Je<|JR (.int .u8 (QP m c.addr)) (fin (M':=M) (P':=P) (ob':=ob) (by unfold qc;rw[if_pos (.inr h2)]) ?_ (j2 (k3.take 1 _) (k7.take 2 _)).2 (.inl rfl))
   obtain⟨e1,e2⟩:=same (by omega) (by omega)
   rw[e1,e2];exact (j2 (k3.take 1 _) (k7.take 2 _)).1
 · have h4:c.kind=4:=by simpa using h4
   refine coR<|qR 1 [] k4 fun w5 k5=>kX (QNh (h.bel k5.touch.below)) fun e w6 ⟨he,P',hj,q⟩=>⟨_,he,qE [] (Many.begin w6) fun w7 k7=>JE<|QG<|Je<|JR (.int .u8 (p.headD 255)) (fin (M':=M) (P':=P') (ob':=ob) (by unfold qc;rw[if_neg (by omega),if_pos h4]) ?_ ?_ (.inl rfl))⟩
   · have e1:Zj c m=m:=by unfold Zj;rw[if_neg (by omega)]
     have e2:jP c p=p.tail:=by unfold jP;rw[if_pos h4]
     rw[e1,e2]
     exact hj.bel k7.touch.below
   · exact ((Kept.of_below (S:=JS J ob) k5.touch.below).trans q (fun _ e=>e) (fun x _ e=>.inl e)).trans (Kept.of_below k7.touch.below) (T:=JS J ob) (fun _ e=>e) (fun _ _ e=>e)
 · have h6:c.kind=6:=by simpa using h6
   refine qQ [] k5 fun w6 k6=>JE<|QG<|Je<|JR (.int .u8 v) (fin (M':=M) (P':=P) (ob':=ob) (by unfold qc;rw[if_neg (by omega),if_neg (by omega),if_pos h6]) ?_ (.of_below k6.touch.below) (.inl rfl))
   obtain⟨e1,e2⟩:=same (by omega) (by omega)
   rw[e1,e2];exact h.bel k6.touch.below
 · have h3:c.kind=3:=by simpa using h3
   refine coZ<|qR 5 [0,0] k6 fun w7 k7=>kX (QJq (h.bel k7.touch.below) c.addr c.data hl) fun e w8 ⟨he,M',ob',hj,q,hnew⟩=>⟨_,he,qF [] (Many.begin w8) fun w9 k9=>eoB<|eoT<|qQ [] k9 fun wa ka=>JE<|JR (.int .u8 0) (fin (M':=M') (P':=P) (ob':=ob') (by unfold qc;rw[if_neg (by omega),if_neg (by omega),if_neg (by omega)]) ?_ ?_ ?_)⟩
   · have e1:Zj c m=m++[(c.addr,c.data)]:=by unfold Zj;rw[if_pos h3]
     have e2:jP c p=p:=by unfold jP;rw[if_neg (by omega)]
     rw[e1,e2]
     exact hj.bel ka.touch.below
   · exact ((Kept.of_below (S:=JS J ob) k7.touch.below).trans q (fun _ e=>e) (fun x _ e=>e)).trans (Kept.of_below ka.touch.below) (T:=JS J ob) (fun _ e=>e) (fun _ _ e=>e)
   · rcases hnew with e|⟨b,e,hb⟩
     · exact .inl e
     · exact .inr ⟨b,e,Nat.le_trans k7.touch.size hb⟩
 · have hs:c.kind≠1∧c.kind≠2∧c.kind≠4∧c.kind≠6∧c.kind≠3:=by
    simp only[beq_eq_false_iff_ne] at h1 h2 h4 h6 h3
    exact⟨h1,h2,h4,h6,h3⟩
   refine JC<|eoB<|eoT<|qQ [] k6 fun wa ka=>JE<|JR (.int .u8 0) (fin (M':=M) (P':=P) (ob':=ob) (by unfold qc;rw[if_neg (by omega),if_neg (by omega),if_neg (by omega)]) ?_ (.of_below ka.touch.below) (.inl rfl))
   obtain⟨e1,e2⟩:=same (by omega) (by omega)
   rw[e1,e2];exact h.bel ka.touch.below
end
def ExB (X:Except Cy (Ms×List Int)):Prop:=match X with|.ok (s,_)=>MsB s|.error c=>CyW c
theorem QQU {W:World}(ht:Tabs W W.heap.size){s:Ms}(hs:MsB s){c:Int}(hc:B8 c){xs:List Int}(hx:Bytes8 xs):ExB (XX xs c s.noLate):=by
 have r1:=Row.new W 5 (bvs xs).toArray
 have b1:=Below.alloc (Below.refl W.heap.size W) (Nat.le_refl _) (.cells (bvs xs).toArray 5)
 generalize W.alloc (.cells (bvs xs).toArray 5)=w1 at *
 have h1:Tabs w1 w1.heap.size:=ht.below b1
 have hy:=QCX r1
 have r2:=Row.new w1 181 (mC s (some ⟨W.heap.size,0,none⟩) xs.length xs.length)
 have b2:=Below.alloc (Below.refl w1.heap.size w1) (Nat.le_refl _) (.cells (mC s (some ⟨W.heap.size,0,none⟩) xs.length xs.length) 181)
 generalize w1.alloc (.cells (mC s (some ⟨W.heap.size,0,none⟩) xs.length xs.length) 181)=w2 at *
 have hat:AtN w2 w1.heap.size w1.heap.size s xs:=⟨⟨_,_,Nat.le_refl _,r2,hy.below b2⟩,Nat.le_refl _,hx,hs,h1.keep fun b hb=>b2.block b hb⟩
 obtain⟨e,w',fr,hO,-⟩:=qh c hc hat []
 unfold ExB
 cases hX:XX xs c s.noLate with
 | error d =>
   rw[hX] at hO
   have hO:_∧BesC _ d _ _:=hO
   exact hO.2.cyw
 | ok q =>
   rw[hX] at hO
   have hO:_∧NowN _ _ _ q.1 q.2 _:=hO
   exact hO.2.at_.ms
theorem QTx {X:Except Cy (Ms×List Int)}(h:ExB X):((ofX X).b=true→RgB (ofX X).g)∧((ofX X).b=false→Wd16 (ofX X).c.addr∧B8 (ofX X).c.data):=by
 rcases X with c|⟨s,ys⟩
 · exact⟨fun e=>(by cases e),fun _=>h⟩
 · have h:MsB s:=h
   exact⟨fun _=>h.r,fun e=>(by cases e)⟩
theorem QKe {l:List Cy} {g:Rg}(hl:∀ c∈l,CyW c)(n:Nat)(hg:l.length≤n→RgB g):((XF l g n).b=true→RgB (XF l g n).g)∧((XF l g n).b=false→Wd16 (XF l g n).c.addr∧B8 (XF l g n).c.data):=by
 unfold XF
 split
 · rename_i hn
   refine⟨fun e=>(by cases e),fun _=>?_⟩
   have e:(QNa (l.getD n JN)).c=l[n]:=by rw[List.getD_eq_getElem?_getD,List.getElem?_eq_getElem hn];rfl
   rw[e]
   exact hl _ (List.getElem_mem hn)
 · exact⟨fun _=>hg (by omega),fun e=>(by cases e)⟩
theorem QLL {sp pc:Int}(hp:Wd16 pc):∀ c∈XR sp pc,CyW c:=by
 intro c h
 simp only[XR,List.mem_cons,List.not_mem_nil,or_false] at h
 rcases h with rfl|rfl|rfl
 · exact⟨Wd16.zero,B8.zero⟩
 · exact⟨Wd16.mod _,hp.hi⟩
 · exact⟨Wd16.mod _,hp.lo8⟩
theorem QRV {a:Int}(ha:Wd16 a):∀ c∈qV a,CyW c:=by
 intro c h
 simp only[qV,List.mem_cons,List.not_mem_nil,or_false] at h
 rcases h with rfl|rfl
 · exact⟨ha,B8.zero⟩
 · exact⟨Wd16.mod _,B8.zero⟩
theorem QLE {g:Rg}(h:RgB g){aim:Int}(ha:Wd16 aim):RgB (Z9 g aim):=⟨h.af,h.bc,h.de,h.hl,h.af2,h.bc2,h.de2,h.hl2,h.ix,h.iy,Wd16.mod _,ha,ha,h.i,h.r,h.mode⟩
theorem QPH {a b:Int}(ha:B8 a)(hb:B8 b):Wd16 (256*a+b):=by
 obtain⟨a0,a1⟩:=ha
 obtain⟨b0,b1⟩:=hb
 exact⟨by omega,by omega⟩
theorem QVA {W:World}(ht:Tabs W W.heap.size):zM:=by
 intro g which xs hg hx
 unfold J5
 split
 · cases xs with
   | nil=>exact⟨fun e=>(by cases e),fun _=>⟨hg.pc,B8.zero⟩⟩
   | cons v ys=>exact QKe (QLL hg.pc) _ fun _=>QLE (hg.beg _ _) ⟨by decide,by decide⟩
 · split
   · cases xs with
     | nil=>exact⟨fun e=>(by cases e),fun _=>⟨hg.pc,B8.zero⟩⟩
     | cons v ys =>
       have hv:=hx.head
       show ((QIl g v ys).b=true→RgB (QIl g v ys).g)∧((QIl g v ys).b=false→Wd16 (QIl g v ys).c.addr∧B8 (QIl g v ys).c.data)
       unfold QIl
       split
       · split
         · exact⟨fun _=>hg.beg _ _,fun e=>(by cases e)⟩
         · exact QTx (QQU ht (QLf (hg.beg false false)) hv hx.tail)
       · split
         · exact QKe (QLL hg.pc) _ fun _=>QLE (hg.beg _ _) ⟨by decide,by decide⟩
         · exact QKe (fun c hc=>(List.mem_append.1 hc).elim (QLL hg.pc c) (QRV (QPH hg.i hv) c)) _ fun _=>QLE (hg.beg _ _) (QPH (hx.tail.getD 4) (hx.tail.getD 3))
   · refine QTx ?_
     cases xs with
     | nil=>rw[QJc];exact⟨hg.pc,B8.zero⟩
     | cons b bs =>
       have ht1:RgB (jB g 1):=hg.tick 1
       cases hh:g.halted with
       | true =>
         rw[QFy hh]
         have h0:=QLf hg
         exact⟨ht1,h0.plane,h0.x,h0.y,h0.z,h0.p,h0.q,h0.spot⟩
       | false =>
         rw[QFs hh]
         have h0:=QLf hg
         have hB:MsB ({ ms0 g with r:=jB g 1 }:Ms).pcUp:=⟨⟨ht1.af,ht1.bc,ht1.de,ht1.hl,ht1.af2,ht1.bc2,ht1.de2,ht1.hl2,ht1.ix,ht1.iy,ht1.sp,Wd16.mod _,ht1.wz,ht1.i,ht1.r,ht1.mode⟩,.inl rfl,h0.x,h0.y,h0.z,h0.p,h0.q,h0.spot⟩
         exact QQU ht hB hx.head hx.tail
@[reducible] def svC (g:Rg)(v:Int)(A:Option Addr)(n cap:Nat):Array Value:=#[.int .u16 g.af,.int .u16 g.bc,.int .u16 g.de,.int .u16 g.hl,.int .u16 g.af2,.int .u16 g.bc2,.int .u16 g.de2,.int .u16 g.hl2,.int .u16 g.ix,.int .u16 g.iy,.int .u16 g.sp,.int .u16 g.pc,.int .u16 g.wz,.int .u8 g.i,.int .u8 g.r,.bool g.iff1,.bool g.iff2,.bool g.halted,.bool g.late,.int .i64 g.mode,.int .u8 v,.slice A n cap]
@[reducible] def svV (g:Rg)(v:Int)(A:Option Addr)(n cap:Nat):Value:=.agg (svC g v A n cap)
def QEs (pc which:Int):Cy:=if which=1 then ⟨1,pc,0,4⟩ else if which=2 then ⟨6,pc,0,6⟩ else JN
theorem QHx (pc which:Int)(w:World) :
 Calls Tryz.prog 133 #[.int .u16 pc,.int .i64 which] w fun e w'=>e=.returned (.tuple #[cyV (QEs pc which),.bool (which==1||which==2)])∧Below w.heap.size w w':=by
 go_enter Tryz.func133,Tryz.ntmps133
 refine JA<|qQ [] (Many.begin w) fun w1 k1=>coS<|qQ [] k1 fun w2 k2=>coB<|qQ [] k2 fun w3 k3=>coI (which==1) (fun h=>?_) fun h=>qQ [] k3 fun w4 k4=>coI (which==2) (fun h2=>?_) fun h2=>JC<|eoB<|eoT<|qQ [0] k4 fun w5 k5=>JE<|?_
 · refine qQ [0] k3 fun w4 k4=>JE<|QG<|Je<|QVa 0 ⟨1,pc,0,4⟩ true w.heap.size k4 ⟨?_,k4.touch.below⟩
   have h':which=1:=by simpa using h
   unfold QEs
   rw[if_pos h',h];rfl
 · refine qQ [0] k4 fun w5 k5=>JE<|QG<|Je<|QVa 0 ⟨6,pc,0,6⟩ true w.heap.size k5 ⟨?_,k5.touch.below⟩
   have h':which≠1:=by simpa using h
   have h2':which=2:=by simpa using h2
   unfold QEs
   rw[if_neg h',if_pos h2',h,h2];rfl
 · refine QVa 0 JN false w.heap.size k5 ⟨?_,k5.touch.below⟩
   have h':which≠1:=by simpa using h
   have h2':which≠2:=by simpa using h2
   unfold QEs
   rw[if_neg h',if_neg h2',h,h2];rfl
theorem QCn (c:Cy)(w:World):Calls Tryz.prog 135 #[cyV c] w fun e w'=>e=.returned (QNa c).v∧Below w.heap.size w w':=by
 go_enter Tryz.func135,Tryz.ntmps135
 refine JA<|qQ [] (Many.begin w) fun w1 k1=>qQ [0,1,2] k1 fun w2 k2=>JE<|zw 1 2 c Jf false (w.heap.size+1) (w.heap.size+2) k2 ⟨rfl,k2.touch.below⟩
theorem QFt (at_:Int)(w:World):Calls Tryz.prog 168 #[.int .u16 at_] w fun e w'=>e=.returned (cyV ⟨2,at_,0,3⟩)∧Below w.heap.size w w':=by
 go_enter Tryz.func168,Tryz.ntmps168
 refine JA<|qQ [] (Many.begin w) fun w1 k1=>qQ [0] k1 fun w2 k2=>JE<|eoC 0 (cyC ⟨2,at_,0,3⟩).toList k2 ⟨rfl,k2.touch.below⟩
theorem QEK (at_ b:Int)(w:World):Calls Tryz.prog 193 #[.int .u16 at_,.int .u8 b] w fun e w'=>e=.returned (cyV ⟨3,at_,b,3⟩)∧Below w.heap.size w w':=by
 go_enter Tryz.func193,Tryz.ntmps193
 refine JA<|qQ [] (Many.begin w) fun w1 k1=>qQ [0] k1 fun w2 k2=>JE<|eoC 0 (cyC ⟨3,at_,b,3⟩).toList k2 ⟨rfl,k2.touch.below⟩
theorem QFv (g:Rg)(v:Int)(A:Option Addr)(n cap:Nat)(aim:Int)(w:World):Calls Tryz.prog 166 #[svV g v A n cap,.int .u16 aim] w fun e w'=>e=.returned (QO7 (Z9 g aim)).v∧Below w.heap.size w w':=by
 go_enter Tryz.func166,Tryz.ntmps166
 refine JA<|qQ [] (Many.begin w) fun w1 k1=>qQ [0,0] k1 fun w2 k2=>qQ [0,0] k2 fun w3 k3=>qP 4 k3 fun w4 k4=>qD 0 [0,1,2] k4<|zO 3<|soZ 1 (w.heap.size+1) k4 fun w4 k4=>poE<|qE [2] k4 fun w5 k5=>JE<|zw 1 2 JN (Z9 g aim) true (w.heap.size+1) (w.heap.size+2) k5 ⟨rfl,k5.touch.below⟩
def QUy (w:World)(l:List Cy)(e:Ending)(w':World):Prop:=∃ b,e=.returned (.slice (some ⟨b,0,none⟩) 3 3)∧w.heap.size≤b∧Row w' b 30 (Qb l).toArray∧Below w.heap.size w w'
theorem bs3Y (c d e:Cy)(w:World):(Instr.buildSlice 82 3 #[(0,cyV c),(1,cyV d),(2,cyV e)]).run Tryz.prog w=.ok (.slice (some ⟨w.heap.size,0,none⟩) 3 3) (w.alloc (.cells (Qb [c,d,e]).toArray 30)):=by simp[go_sem,Qb]
theorem bs2Y (c d:Cy)(w:World):(Instr.buildSlice 82 2 #[(0,cyV c),(1,cyV d)]).run Tryz.prog w=.ok (.slice (some ⟨w.heap.size,0,none⟩) 2 2) (w.alloc (.cells (Qb [c,d]).toArray 30)):=by simp[go_sem,Qb]
theorem bs1Y (c:Cy)(w:World):(Instr.buildSlice 82 1 #[(0,cyV c)]).run Tryz.prog w=.ok (.slice (some ⟨w.heap.size,0,none⟩) 1 1) (w.alloc (.cells (Qb [c]).toArray 30)):=by simp[go_sem,Qb]
theorem QGT (g:Rg)(hp:0≤g.pc∧g.pc≤65535)(v:Int)(A:Option Addr)(n cap:Nat)(w:World):Calls Tryz.prog 165 #[svV g v A n cap] w (QUy w (XR g.sp g.pc)):=by
 go_enter Tryz.func165,Tryz.ntmps165
 refine JA<|qQ [] (Many.begin w) fun w1 k1=>?_
 refine qP 19 k1 fun w2 k2=>?_
 refine qD 0 [0,1,2,3,4,5,6,7,10,11,12,13,14,15,16] k2 ?_
 refine qDe 8 (qX g.pc hp.1 hp.2 w2) k2 fun w3 k3=>qDc 9 (QEK ((g.sp-1)%65536) (g.pc / 256) w3) k3 fun w4 k4=>qDe 17 (Zx g.pc hp.1 hp.2 w4) k4 fun w5 k5=>qDc 18 (QEK ((g.sp-2)%65536) (g.pc%256) w5) k5 fun w6 k6=>poE ?_
 refine wM (X7 (bs3Y ⟨7,0,0,1⟩ ⟨3,(g.sp-1)%65536,g.pc / 256,3⟩ ⟨3,(g.sp-2)%65536,g.pc%256,3⟩ w6)) ?_
 refine qE [] (Many.begin _) fun w7 k7=>JE<|JR (.slice (some ⟨w6.heap.size,0,none⟩) 3 3) ⟨w6.heap.size,rfl,k6.touch.size,(Row.new w6 30 (Qb (XR g.sp g.pc)).toArray).below k7.touch.below (Row.new w6 _ _).lt,bOn (ja k6.touch.below _) k7⟩
theorem QDH (g:Rg)(hp:0≤g.pc∧g.pc≤65535)(v:Int)(A:Option Addr)(n cap:Nat)(hn:n≤1000000000)(aim:Int)(w:World):Calls Tryz.prog 153 #[svV g v A n cap,.int .u16 aim] w fun e w'=>e=.returned (XF (XR g.sp g.pc) (Z9 g aim) n).v∧Below w.heap.size w w':=by
 go_enter Tryz.func153,Tryz.ntmps153
 refine JA<|qQ [] (Many.begin w) fun w1 k1=>coR<|qR 1 [0] k1 fun w2 k2=>kX (QGT g hp v A n cap w2) ?_
 rintro e w3 ⟨b,rfl,hb,hrow,hB⟩
 have k3:=(k2.below hB).add hrow (Nat.le_trans k2.touch.size hb) fun i r hi=>Nat.ne_of_lt (Nat.lt_of_lt_of_le (k2.lt i r hi) hb)
 refine⟨_,rfl,qE [] k3 fun w4 k4=>coS<|qQ [0] k4 fun w5 k5=>coI (decide ((n:Int) < 3)) (fun h=>?_) fun h=>JC<|eoT<|coR<|qR 2 [0] k5 fun w6 k6=>qC (QFv g v A n cap aim w6) k6 fun w7 k7=>qE [1,2] k7 fun w8 k8=>JE<|zw 1 2 JN (Z9 g aim) true (w.heap.size+1) (w.heap.size+2) k8 ⟨?_,k8.touch.below⟩⟩
 · have h3:n < 3:=by have:(n:Int) < 3:=by simpa using h
                     omega
   have h3':n < (XR g.sp g.pc).length:=h3
   refine coR<|qR 4 [0] k5 fun w6 k6=>wM (Jm (cixY ⟨b,0,none⟩ 3 3 n h3 w6))<|wM (Jc (CysIn.ld (QTT (b:=b) (t:=30) (k6.row 3 (Qb (XR g.sp g.pc)) (by kernel_rfl))) h3'))<|qC (QCn (XR g.sp g.pc)[n] _) k6 fun w7 k7=>qE [1,2] k7 fun w8 k8=>JE<|Je<|zw 1 2 (XR g.sp g.pc)[n] Jf false (w.heap.size+1) (w.heap.size+2) k8 ⟨?_,k8.touch.below⟩
   unfold XF
   rw[if_pos h3',List.getD_eq_getElem?_getD,List.getElem?_eq_getElem h3']
   rfl
 · have h3:¬n < 3:=by have:¬(n:Int) < 3:=by simpa using h
                      omega
   unfold XF
   rw[if_neg (show ¬n < (XR g.sp g.pc).length from h3)]
   rfl
theorem QTo (g:Rg)(hp:0≤g.pc∧g.pc≤65535)(v:Int)(A:Option Addr)(n cap:Nat)(hn:n≤1000000000)(w:World):Calls Tryz.prog 137 #[svV g v A n cap] w fun e w'=>e=.returned (XF (XR g.sp g.pc) (Z9 { g with iff1:=false } 102) n).v∧Below w.heap.size w w':=by
 go_enter Tryz.func137,Tryz.ntmps137
 obtain⟨T,hT⟩:∃ T,T=XF (XR g.sp g.pc) (Z9 { g with iff1:=false } 102) n:=⟨_,rfl⟩
 have K:=fun w=>QDH { g with iff1:=false } hp v A n cap hn 102 w
 dsimp only at K
 rw[←hT] at K ⊢
 refine JA<|qQ [] (Many.begin w) fun w1 k1=>qQ [0] k1 fun w2 k2=>coR<|qR 1 [0] k2 fun w3 k3=>qC (K w3) k3 fun w4 k4=>qE [1,2] k4 fun w5 k5=>JE<|zw 1 2 T.c T.g T.b (w.heap.size+1) (w.heap.size+2) k5 ⟨rfl,k5.touch.below⟩
theorem QN9 (g:Rg)(hp:0≤g.pc∧g.pc≤65535)(v:Int)(A:Option Addr)(n cap:Nat)(hn:n≤1000000000)(w:World):Calls Tryz.prog 155 #[svV g v A n cap] w fun e w'=>e=.returned (XF (XR g.sp g.pc) (Z9 g 56) n).v∧Below w.heap.size w w':=by
 go_enter Tryz.func155,Tryz.ntmps155
 obtain⟨T,hT⟩:∃ T,T=XF (XR g.sp g.pc) (Z9 g 56) n:=⟨_,rfl⟩
 have K:=fun w=>QDH g hp v A n cap hn 56 w
 rw[←hT] at K ⊢
 refine JA<|qQ [] (Many.begin w) fun w1 k1=>coR<|qR 1 [0] k1 fun w3 k3=>qC (K w3) k3 fun w4 k4=>qE [1,2] k4 fun w5 k5=>JE<|zw 1 2 T.c T.g T.b (w.heap.size+1) (w.heap.size+2) k5 ⟨rfl,k5.touch.below⟩
theorem QNO (g:Rg)(hg:RgB g)(v:Int)(ys:List Int)(A:Option Addr)(cap:Nat)(hc:ys.length+1≤cap)(w:World)(hin:BytesIn w w.heap.size A (v :: ys)):Calls Tryz.prog 136 #[JM g,.slice A (v :: ys).length cap] w fun e w'=>e=.returned (svV (jB { g with halted:=false,late:=false } 1) v (if cap=1 then A else A.map (·.add 1)) ys.length (cap-1))∧Below w.heap.size w w':=by
 go_enter Tryz.func136,Tryz.ntmps136
 obtain⟨p,rfl⟩:=hin.addr (k:=0) (by simp)
 refine JA<|qQ [] (Many.begin w) fun w1 k1=>qQ [0,0] k1 fun w2 k2=>qP 8 k2 fun w3 k3=>qD 0 [0,2,5] k3<|qT 3 k3 (fun w' _=>Jm (ixB p (v :: ys).length cap 0 (by simp) _))<|qT 4 k3 (fun w' hS=>Jc (BytesIn.ld (hin.below hS.touch.below) (k:=0) (by simp)))<|qT 6 k3 (fun w' hS=>QCv (QMD (some p) (v :: ys).length cap (by simp) hc _))<|qDc 1 (QJD { g with halted:=false,late:=false } 1 hg.r w3) k3 fun w4 k4=>qM [7] k4<|poE<|qE [1] k4 fun w5 k5=>JE<|eoC 1 (svC (jB { g with halted:=false,late:=false } 1) v (if cap=1 then some p else (some p).map (·.add 1)) ys.length (cap-1)).toList k5 ⟨rfl,k5.touch.below⟩
end Go.Proofs.YtmgcgiecimnncaaGreatDoor
