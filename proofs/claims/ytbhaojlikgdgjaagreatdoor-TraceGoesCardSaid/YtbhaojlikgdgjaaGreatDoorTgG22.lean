/- Contracts and facts that the claim's proof wants (several texts in one). -/
import Derived.Shelf.SlSortCmp.NoneTotal
import Derived.Test.YtbhaojlikgdgjaaGreatDoorTgG21
namespace Go.Proofs.YtbhaojlikgdgjaaGreatDoor
open Go.RowKit
set_option linter.unusedVariables false
set_option linter.unusedSimpArgs false
set_option maxRecDepth 20000
set_option maxHeartbeats 20000000
section
section
open Go.Shelf
def Sh.sortC_ren:Go.Shelf.Ren:=⟨fun|6=>73|15=>106|14=>105|28=>140|29=>109|20=>132|21=>133|22=>134|23=>135|24=>136|25=>137|26=>138|27=>139|46=>162|47=>163|48=>164|49=>165|50=>166|57=>212|n=>n,fun|22=>25|24=>57|25=>130|3=>3|39=>91|0=>0|53=>136|55=>72|4=>4|46=>181|45=>180|50=>185|5=>5|9=>9|66=>191|70=>195|76=>213|77=>214|n=>n,fun|n=>n⟩
theorem Sh.sortC:Go.Proofs.SlLaysF0.n6 Tryz.prog Sh.sortC_ren:={
 mixed:=by kernel_rfl
 f6:=⟨Tryz.f73.name,by kernel_rfl,Tryz.func73.trans (congrArg some (by kernel_rfl))⟩
 f14:=⟨Tryz.f105.name,by kernel_rfl,Tryz.func105.trans (congrArg some (by kernel_rfl))⟩
 f15:=Tryz.func106.trans (congrArg some (by kernel_rfl))
 f20:=⟨Tryz.f132.name,by kernel_rfl,Tryz.func132.trans (congrArg some (by kernel_rfl))⟩
 f21:=⟨Tryz.f133.name,by kernel_rfl,Tryz.func133.trans (congrArg some (by kernel_rfl))⟩
 f22:=⟨Tryz.f134.name,by kernel_rfl,Tryz.func134.trans (congrArg some (by kernel_rfl))⟩
 f23:=⟨Tryz.f135.name,by kernel_rfl,Tryz.func135.trans (congrArg some (by kernel_rfl))⟩
 f24:=⟨Tryz.f136.name,by kernel_rfl,Tryz.func136.trans (congrArg some (by kernel_rfl))⟩
 f25:=⟨Tryz.f137.name,by kernel_rfl,Tryz.func137.trans (congrArg some (by kernel_rfl))⟩
 f26:=⟨Tryz.f138.name,by kernel_rfl,Tryz.func138.trans (congrArg some (by kernel_rfl))⟩
 f27:=⟨Tryz.f139.name,by kernel_rfl,Tryz.func139.trans (congrArg some (by kernel_rfl))⟩
 f28:=Tryz.func140.trans (congrArg some (by kernel_rfl))
 f29:=Tryz.func109.trans (congrArg some (by kernel_rfl))
 f46:=⟨Tryz.f162.name,by kernel_rfl,Tryz.func162.trans (congrArg some (by kernel_rfl))⟩
 f47:=Tryz.func163.trans (congrArg some (by kernel_rfl))
 f48:=Tryz.func164.trans (congrArg some (by kernel_rfl))
 f49:=⟨Tryz.f165.name,by kernel_rfl,Tryz.func165.trans (congrArg some (by kernel_rfl))⟩
 f50:=⟨Tryz.f166.name,by kernel_rfl,Tryz.func166.trans (congrArg some (by kernel_rfl))⟩
 f57:=⟨Tryz.f212.name,by kernel_rfl,Tryz.func212.trans (congrArg some (by kernel_rfl))⟩
 t0:=Tryz.underlying0
 a0:=Tryz.isAgg0
 z0:=Tryz.sizeOf0
 v0:=Tryz.zeroValue0
 t3:=Tryz.underlying3
 a3:=Tryz.isAgg3
 z3:=Tryz.sizeOf3
 v3:=Tryz.zeroValue3
 t4:=Tryz.underlying4
 a4:=Tryz.isAgg4
 z4:=Tryz.sizeOf4
 v4:=Tryz.zeroValue4
 t5:=Tryz.underlying5
 a5:=Tryz.isAgg5
 z5:=Tryz.sizeOf5
 v5:=Tryz.zeroValue5
 t9:=Tryz.underlying9
 a9:=Tryz.isAgg9
 z9:=Tryz.sizeOf9
 v9:=Tryz.zeroValue9
 t22:=Tryz.underlying25
 a22:=Tryz.isAgg25
 z22:=Tryz.sizeOf25
 v22:=Tryz.zeroValue25
 t25:=Tryz.underlying130
 a25:=Tryz.isAgg130
 z25:=Tryz.sizeOf130
 v25:=Tryz.zeroValue130
 t39:=Tryz.underlying91
 a39:=Tryz.isAgg91
 z39:=Tryz.sizeOf91
 v39:=Tryz.zeroValue91
 t45:=Tryz.underlying180
 a45:=Tryz.isAgg180
 z45:=Tryz.sizeOf180
 v45:=Tryz.zeroValue180
 t46:=Tryz.underlying181
 a46:=Tryz.isAgg181
 z46:=Tryz.sizeOf181
 v46:=Tryz.zeroValue181
 t50:=Tryz.underlying185
 a50:=Tryz.isAgg185
 z50:=Tryz.sizeOf185
 v50:=Tryz.zeroValue185
 t53:=Tryz.underlying136
 a53:=Tryz.isAgg136
 z53:=Tryz.sizeOf136
 v53:=Tryz.zeroValue136
 t55:=Tryz.underlying72
 a55:=Tryz.isAgg72
 z55:=Tryz.sizeOf72
 v55:=Tryz.zeroValue72
 t66:=Tryz.underlying191
 a66:=Tryz.isAgg191
 z66:=Tryz.sizeOf191
 v66:=Tryz.zeroValue191
 t70:=Tryz.underlying195
 a70:=Tryz.isAgg195
 z70:=Tryz.sizeOf195
 v70:=Tryz.zeroValue195
 t76:=Tryz.underlying213
 a76:=Tryz.isAgg213
 z76:=Tryz.sizeOf213
 v76:=Tryz.zeroValue213
 t77:=Tryz.underlying214
 a77:=Tryz.isAgg214
 z77:=Tryz.sizeOf214
 v77:=Tryz.zeroValue214 }
end
open Go.Shelf Go.Lib Go.Sort
theorem QMX (x:Int)(w:World):Calls Tryz.prog 107 #[.int .u16 x] w fun e w'=>e=.returned (.bool false)∧w'=w:=by
 go_enter Tryz.func107,Tryz.ntmps107
 go_wp2
 go_ret
 exact⟨rfl,rfl⟩
theorem QIV (x y:Int)(w:World):Calls Tryz.prog 75 #[.int .u16 x,.int .u16 y] w fun e w'=>e=.returned (.int .i64 (Lib.compareInt x y))∧w'=w:=by
 go_enter Tryz.func75,Tryz.ntmps75
 go_wp2_with (go_at_call 107;refine (QMX _ _).mono ?_;rintro e w' ⟨rfl,rfl⟩)
 all_goals go_ret
 all_goals refine⟨?_,rfl⟩
 all_goals unfold Lib.compareInt
 all_goals first
  | (simp_all;done)
  | (rw[if_neg (show ¬x < y by omega),if_neg (show ¬x > y by omega)];first|rfl|simp)
def QES (c:Int×Int):List Value:=[.int .u16 c.1,.int .u8 c.2]
theorem QGu (x y:Int×Int)(W:World):Calls Tryz.prog 74 #[.agg #[.int .u16 x.1,.int .u8 x.2],.agg #[.int .u16 y.1,.int .u8 y.2]] W fun e w'=>e=.returned (.int .i64 (Lib.compareInt x.1 y.1))∧∃ q os',w'=grow (W.drewN q) os':=by
 have hcon:=fun W'=>QIV x.1 y.1 W'
 generalize Lib.compareInt x.1 y.1=r at hcon ⊢
 go_enter Tryz.func74,Tryz.ntmps74
 go_wp2_with (go_at_call 75;refine (hcon _).mono ?_;rintro e w' ⟨rfl,rfl⟩)
 go_ret
 exact⟨rfl,0,_,by rw[alloc_eq_grow,alloc_eq_grow,grow_grow];rfl⟩
theorem QHp (blk off size:Nat)(w:World):CmpLays Tryz.prog 74 #[] QES 2 (fun x y=>Lib.compareInt x.1 y.1) blk off size w :=
 fun _ _ _ _ x y=>QGu x y _
theorem QRC (x y:Int×Int):ltOf (fun x y:Int×Int=>Lib.compareInt x.1 y.1) x y=decide (x.1 < y.1):=by
 unfold ltOf Lib.compareInt
 by_cases h1:x.1 < y.1
 · simp[h1]
 · by_cases h2:y.1 < x.1<;>simp[h1,h2]
theorem QU6:SWO (ltOf fun x y:Int×Int=>Lib.compareInt x.1 y.1) where
 irrefl x:=by rw[QRC];simp
 trans x y z h1 h2:=by rw[QRC] at *;simp at *;omega
 ntrans x y z h1 h2:=by rw[QRC] at *;simp at *;omega
theorem QPU (l:List (Int×Int))(j:Nat)(hj:j < l.length*2):(cvs l)[j]? = some (QES l.toArray[j / 2]!)[j%2]!:=by
 have h2:j / 2 < l.length:=by omega
 have e:l.toArray[j / 2]! = l[j / 2]:=by simp[h2]
 rw[e]
 have hd:j=j / 2*2∨j=j / 2*2+1:=by omega
 rcases hd with h|h
 · have hm:j%2=0:=by omega
   rw[hm]
   conv=>lhs;rw[h]
   rw[QBQ,List.getElem?_eq_getElem h2]
   rfl
 · have hm:j%2=1:=by omega
   rw[hm]
   conv=>lhs;rw[h]
   rw[QCy,List.getElem?_eq_getElem h2]
   rfl
theorem QL9 {W:World} {b g cap:Nat} {l:List (Int×Int)}(h:W.ownsRow b 57 2 (.slice (some ⟨g,0,none⟩) l.length cap) l.length (cvs l)):HoldsK QES 2 W g 0 l.toArray:=fun j hj=>by
 rw[size_flatK] at hj
 rw[get_flatK _ _ _ _ hj]
 have hj':j < l.length*2:=by simpa using hj
 rw[Nat.zero_add]
 exact⟨(h.cellAt j hj').trans (QPU l j hj'),h.frozenAt j⟩
theorem QHS {W:World} {g:Nat} {l:List (Int×Int)}(h:HoldsK QES 2 W g 0 l.toArray)(hb:g < W.heap.size):CellsIn W W.heap.size (some ⟨g,0,none⟩) l :=
 CellsIn.of_values hb fun j u hu=>by
  have hj:j < l.length*2:=by
   have:=(List.getElem?_eq_some_iff.1 hu).1
   rwa [jI] at this
  have h1:=(h j (by rw[size_flatK];simpa using hj)).1
  rw[get_flatK _ _ _ _ (by simpa using hj)] at h1
  rw[QPU l j hj] at hu
  have e:(⟨g,0,none⟩:Addr).add j=⟨g,0+j,none⟩:=by
   unfold Addr.add
   split
   · rename_i h0;rw[h0]
   · simp
  rw[e]
  exact h1.trans (by simpa using hu)
theorem QGB (W:World)(blk n:Nat)(d:Array (Int×Int))(os:Array Obj):W.grownBy (sortWorldK QES 2 W blk 0 n d os) (some blk):=by
 refine⟨rfl,rfl,rfl,?_,fun i hi hne=>?_⟩
 · unfold sortWorldK putRowK
   rw[size_grow,size_putRow]
   exact Nat.le_add_right _ _
 · unfold sortWorldK
   rw[heap_grow_old _ _ (by unfold putRowK;rw[size_putRow];exact hi)]
   unfold putRowK putRow mapBlock
   show (W.heap.modify blk _)[i]? = _
   rw[Array.getElem?_modify,if_neg (by intro e;exact hne (by rw[e]))]
theorem QLa (blk cap:Nat)(l:List (Int×Int))(hl:l.length≤1000000000)(w:World)(hH:HoldsK QES 2 w blk 0 l.toArray)(hblk:blk < w.heap.size) :
 Calls Tryz.prog 73 #[.slice (some ⟨blk,0,none⟩) l.length cap,.func (.func 74) #[] #[]] w fun e w'=>e=.returned (.tuple #[])∧∃ d:List (Int×Int),d.Perm l∧d.Pairwise (fun x y=>x.1≤y.1)∧CellsIn w' w'.heap.size (some ⟨blk,0,none⟩) d∧w.grownBy w' (some blk):=by
 have eg:∀ args w,(callFunc 74 args).run Tryz.prog w=.ok (.enter 74 args) w:=enters_of Tryz.func74 (by kernel_rfl) rfl
 have hcon:=AnyQ.slices_SortFunc Sh.sortC 2 Tryz.isAgg57 Tryz.sizeOf57 QES (fun _=>rfl) (fun x v hv=>by simp[QES] at hv;rcases hv with rfl|rfl<;>rfl) (fun x y=>Lib.compareInt x.1 y.1) QU6 74 #[] blk 0 cap l.toArray w eg (QHp blk 0 l.toArray.size w) hH hblk (by simp;omega)
 change Calls Tryz.prog 73 _ _ _ at hcon
 have e0:l.toArray.size=l.length:=by simp
 rw[e0] at hcon
 refine hcon.mono ?_
 rintro e w' ⟨rfl,d',n,os,⟨p1,p2,p3⟩,hs,rfl⟩
 have hsz:d'.size=l.length:=by rw[p1,e0]
 have hH':=holdsK_sortWorldK_c QES 2 w blk 0 l.toArray d' n os hH hblk p1
 refine⟨rfl,d'.toList,?_,?_,?_,QGB w blk n d' os⟩
 · have e1:d'.extract 0 l.length=d':=by rw[←hsz];simp
   have e2:l.toArray.extract 0 l.length=l.toArray:=by rw[←e0];simp
   rw[e1,e2] at p3
   simpa using p3
 · rw[List.pairwise_iff_getElem]
   intro i j hi hj hij
   have hi':i < d'.size:=by simpa using hi
   have hj':j < d'.size:=by simpa using hj
   have:=hs i j (Nat.zero_le _) hij (by omega)
   rw[QRC,getElem!_pos d' j hj',getElem!_pos d' i hi'] at this
   simp at this
   simpa using this
 · refine QHS (l:=d'.toList) (by simpa using hH') ?_
   exact Nat.lt_of_lt_of_le hblk (size_sortWorldK_c QES 2 w blk 0 n d' os)
end
theorem QUW (A:Option Addr)(n c:Nat)(h:n≤c)(w:World):(Instr.sliceAt 25 (.slice A n c) none (some (.int .i64 (n:Int))) (some (.int .i64 (n:Int)))).run Tryz.prog w=.ok (.slice A n n) w:=by
 have h1:¬((n:Int) < 0):=by omega
 have h2:¬(c < n):=by omega
 simp[go_sem,h1,h2]
theorem QMl {base n:Nat} {v:Value} {l:List (Int×Int)}(hl:l.length≤1000000000)(w:World)(hown:w.ownsRow base 57 2 v l.length (cvs l)) :
 Calls Tryz.prog 73 #[v,.func (.func 74) #[] #[]] w fun e w'=>e=.returned (.tuple #[])∧∃ (A:Option Addr) (c:Nat) (d:List (Int×Int)),v=.slice A l.length c∧d.Perm l∧d.Pairwise (fun x y=>x.1≤y.1)∧CellsIn w' w'.heap.size A d∧l.length≤c∧(A=none→l.length=0)∧w.grownBy w' v.ownBlock:=by
 by_cases h0:l=[]
 · subst h0
   obtain⟨A,c,rfl,hc,hci,hn⟩:=Z4 hown
   refine (AnyF.slices_SortFunc_none (P:=Tryz.prog) (ρ:=Sh.sortC_ren) { Sh.sortC with } A c _ w).mono ?_
   rintro e w' ⟨rfl,rfl⟩
   exact⟨rfl,A,c,[],rfl,.refl _,.nil,CellsIn.nil _ _ _,hc,fun _=>rfl,⟨rfl,rfl,rfl,Nat.le_refl _,fun _ _ _=>rfl⟩⟩
 · have hpos:0 < l.length:=by cases l with
                               | nil=>exact absurd rfl h0
                               | cons c r=>simp
   rcases hown.2 with ⟨-,e2⟩|⟨g,cap,cur,e1,-,hh,hle,-⟩
   · omega
   · subst e1
     refine (QLa g cap l hl w (QL9 hown) (Array.getElem?_eq_some_iff.1 hh).1).mono ?_
     rintro e w' ⟨rfl,d,hp,hs,hci,hg⟩
     exact⟨rfl,_,cap,d,rfl,hp,hs,hci,hle,(fun e=>by cases e),hg⟩
structure QSq where
 ss:List (Int×Int)
 v:Value
 left:Int→Bool
 cnt:Nat
 y:Nat→Value
def QS1 (b r:Nat)(x:QSq):List Value:=[.map (some b),x.y 1,x.y 2,x.v,x.y 4,x.y 5,x.y 6,.pointer (some ⟨r,0,none⟩),x.y 8,x.y 9,x.y 10,x.y 11,x.y 12,x.y 13,x.y 14,x.y 15,x.y 16,x.y 17,x.y 18,x.y 19,x.y 20,x.y 21,x.y 22,x.y 23,x.y 24,x.y 25,x.y 26]
def QTu (w:World)(b r n:Nat)(m:List (Int×Int))(x:QSq)(W:World):Prop:=Below w.heap.size w W∧W.ownsRow (r+1) 57 2 x.v x.ss.length (cvs x.ss)∧RangeAt W b r n m x.left x.cnt∧(∀ p,p∈x.ss↔p∈m∧x.left p.1=false)∧x.ss.Pairwise (fun p q=>p.1≠q.1)∧x.ss.length+x.cnt≤m.length
def QM5 (w:World)(m:List (Int×Int))(e:Ending)(w':World):Prop:=∃ A' c,e=.returned (.slice A' m.length c)∧CellsIn w' w'.heap.size A' m∧m.length≤c∧(A'=none→c=0)∧Below w.heap.size w w'∧∀ q,A'=some q→w.heap.size≤q.block
theorem QMn (b n:Nat)(m:List (Int×Int))(hs:Srt m)(hl:m.length≤100000000)(w:World)(hM:MapAt w b n m) :
 Calls Tryz.prog 44 #[.map (some b)] w (QM5 w m):=by
 go_enter Tryz.func44,Tryz.ntmps44
 refine JA<|qQ [] (Many.begin w) fun w1 k1=>qQ [] k1 fun w2 k2=>coS<|coR<|qR 1 [] k2 fun w3 k3=>?_
 have hM3:=hM.below k3.touch.below
 obtain⟨w4,r1,r2,r3⟩:=hM3.range
 obtain⟨r,hr⟩:∃ r,r=w3.heap.size:=⟨_,rfl⟩
 have hB4:Below w.heap.size w w4:=k3.touch.below.trans (r3.mono k3.touch.size)
 have hbr:b < r:=by rw[hr];exact hM3.lt
 have hwr:w.heap.size≤r:=by rw[hr];exact k3.touch.size
 rw[←hr] at r2
 refine wM (QTB r1)<|qE [] (Many.begin w4) fun w5 k5=>coB<|Zk (QS1 b r) (QTu w b r n m) (fun x=>x.cnt) (fun y=>⟨[],.slice none 0 0,fun x=>m.any fun p=>decide (p.1=x),m.length,y⟩) ⟨bOn hB4 k5,World.ownsRow_nil ..,r2.below k5.touch.below,?_,List.Pairwise.nil,by show 0+m.length≤m.length;omega⟩ ?_ (by rw[hr];kernel_rfl)
 · intro p
   constructor
   · intro h;cases h
   · rintro ⟨h1,h2⟩
     rw[List.any_eq_false] at h2
     exact absurd (decide_eq_true rfl) (h2 p h1)
 clear r1 r2 r3 hB4 hM3 k5 k3 hr
 rintro ⟨ss,v,left,cnt,y⟩ W ⟨hB,hown,hR,hmem,hpw,hlen⟩
 have hown:W.ownsRow (r+1) 57 2 v ss.length (cvs ss):=hown
 have hR:RangeAt W b r n m left cnt:=hR
 have hmem:∀ p,p∈ss↔p∈m∧left p.1=false:=hmem
 have hpw:ss.Pairwise (fun p q=>p.1≠q.1):=hpw
 have hlen:ss.length+cnt≤m.length:=hlen
 rcases hR.next 0 with ⟨hl0,hrun⟩|⟨x,c,w6,cnt',hx,hc,hlx,hxm,hrun,hR6,hlt,hg6,hen⟩
 · refine coR<|wM (QSJ hrun)<|qE [] (Many.begin W) fun wa ka=>coS<|coF<|coX<|qX<|qX<|QEd<|eoT<|coR<|qR 1 [] ka fun wb kb=>?_
   have hownb:=own_below hown kb.touch.below
   refine kO (QMl (n:=0) (by omega) wb hownb) ?_
   rintro wc ⟨A,cp,d,rfl,hp,hsd,hci,hcp,hA,hg⟩
   have hBc:Below w.heap.size w wc:=qK (bOn hB kb) hg hownb (by omega) (bOn hB kb).size
   have hds:Srt d:=by
    have h1:d.Pairwise (fun p q=>p.1≠q.1):=(hp.pairwise_iff (fun {a b} (h:a.1≠b.1)=>h.symm)).2 hpw
    have h2:=hsd.and h1
    exact h2.imp fun {a b} ⟨h3,h4⟩=>by omega
   have hdm:d=m:=QBs hds hs fun p=>by
    rw[hp.mem_iff,hmem]
    exact⟨fun h=>h.1,fun h=>⟨h,hl0 _⟩⟩
   have hln:ss.length=m.length:=by rw[←hdm,hp.length_eq]
   subst hdm
   refine qE [] (Many.begin wc) fun wd kd=>coR<|qR 5 [] kd fun we ke=>?_
   refine wM (QDg (QUW A ss.length cp hcp _))<|qE [] ke fun wf kf=>JK<|Ju (.slice A ss.length ss.length) ⟨A,d.length,?_,(hci.below kf.touch.below).more kf.touch.size,Nat.le_refl _,fun e=>hln▸hA e,bOn hBc kf,fun q e=>by have:=(hownb.lt q.block (by rw[e];rfl)).1;omega⟩
   rw[hln]
 · refine coR<|wM (QSJ hrun)<|wM (QNJ (.bool true) #[.bool true,.int .u16 x,.int .u8 c])<|wT<|coS<|coT<|JE<|eoT<|coB<|coR<|wM (QS3 hen)<|qE [] (Many.begin w6) fun wa ka=>?_
   have hB6:Below w.heap.size w w6:=jG hB hg6 hwr hB.size
   have hown6:w6.ownsRow (r+1) 57 2 v ss.length (cvs ss):=hown.kept hg6 (by
    cases h:v.ownBlock with
    | none=>exact .inl rfl
    | some g=>exact .inr fun e=>by cases e;have:=(hown.lt _ h).1;omega)
   refine coZ<|qR 4 [] ka fun wb kb=>wM (Zt (bsC x c wb))<|?_
   have hownb:=(own_below hown6 kb.touch.below).alloc (.cells #[.int .u16 x,.int .u8 c] 57)
   have hRb:=(hR6.below kb.touch.below)
   have hRb':RangeAt (wb.alloc (.cells #[.int .u16 x,.int .u8 c] 57)) b r n m _ cnt':=hRb.below (Below.alloc (Below.refl _ _) (Nat.le_refl _) _)
   refine qAc (.tmp 13) (.tmp 17) (r+1) _ v ss.length ss (some ⟨wb.heap.size,0,none⟩) 1 [(x,c)] hRb'.lt hownb (QBw wb x c _) (fun e=>by cases e) (by show ss.length+1≤_;omega) fun v' wc own' g'=>?_
   have hne:∀ q,q≤r→some q≠v.ownBlock:=fun q hq e=>by have:=(hownb.lt q e.symm).1;omega
   have hBc:=qK (jC (bOn hB6 kb) _) g' hownb (by omega) (jC (bOn hB6 kb) _).size
   refine qF [] (Many.begin wc) fun wd kd=>eoB<|QQ (fun y=>⟨ss++[(x,c)],v',fun z=>left z&&!decide (z=x),cnt',y⟩) ⟨bOn hBc kd,?_,(hRb'.grown g' (hne b (by omega)) (hne r (Nat.le_refl _))).below kd.touch.below,?_,?_,?_⟩ hlt
   · show wd.ownsRow _ _ _ v' (ss++[(x,c)]).length _
     rw[List.length_append]
     exact own_below own' kd.touch.below
   · intro p
     show p∈ss++[(x,c)]↔p∈m∧(left p.1&&!decide (p.1=x))=false
     rw[List.mem_append,hmem,List.mem_singleton]
     constructor
     · rintro (⟨h1,h2⟩|rfl)
       · exact⟨h1,by rw[h2];rfl⟩
       · exact⟨hxm,by simp⟩
     · rintro ⟨h1,h2⟩
       by_cases e:p.1=x
       · exact .inr (QKy hs h1 hxm e)
       · rw[decide_eq_false e] at h2
         exact .inl ⟨h1,by simpa using h2⟩
   · show (ss++[(x,c)]).Pairwise _
     rw[List.pairwise_append]
     refine⟨hpw,List.pairwise_singleton _ _,fun p hp q hq=>?_⟩
     rw[List.mem_singleton] at hq
     subst hq
     intro e
     have e:p.1=x:=e
     have:=((hmem p).1 hp).2
     rw[e,hlx] at this
     cases this
   · show (ss++[(x,c)]).length+cnt'≤m.length
     simp
     omega
theorem Gives.on {w w1 w2:World} {m:List (Int×Int)} {e:Ending}(hB:Below w.heap.size w w1)(h:Gives w1 m e w2):Gives w m e w2:=by
 obtain⟨A',c,h1,h2,h3,h4,h5⟩:=h
 exact⟨A',c,h1,h2,h3,h4,hB.trans (h5.mono hB.size)⟩
theorem QMr (A:Option Addr)(cap:Nat)(l:List (Int×Int))(hl:l.length≤100000000)(h16:Jg l)(w:World)(hin:CellsIn w w.heap.size A l) :
 Calls Tryz.prog 26 #[.slice A l.length cap] w (QM5 w (mkS l)):=by
 go_enter Tryz.func26,Tryz.ntmps26
 refine JA<|qQ [] (Many.begin w) fun w1 k1=>coR<|qR 1 [] k1 fun w2 k2=>kX (QFo A cap l (by omega) h16 w2 ((hin.below k2.touch.below).more k2.touch.size)) ?_
 rintro e w3 ⟨b,hb,rfl,hM,hB⟩
 have hB3:Below w.heap.size w w3:=k2.touch.below.trans (hB.mono k2.touch.size)
 refine⟨_,rfl,kX (QMn b _ (mkS l) (zu l) (Nat.le_trans (QGL l) hl) w3 hM) ?_⟩
 rintro e w4 ⟨A',c,rfl,g1,g2,g3,g4,g5⟩
 refine⟨_,rfl,qE [] (Many.begin w4) fun w5 k5=>JK<|Ju (.slice A' (mkS l).length c) ⟨A',c,rfl,(g1.below k5.touch.below).more k5.touch.size,g2,g3,bOn (hB3.trans (g4.mono hB3.size)) k5,fun q e=>Nat.le_trans hB3.size (g5 q e)⟩⟩
theorem QTz (A:Option Addr)(n c:Nat)(h:n≤c)(w:World):(Instr.sliceAt 25 (.slice A n c) none (some (.int .i64 (n:Int))) (some (.int .i64 (n:Int)))).run Tryz.prog w=.ok (.slice A n n) w:=by
 have h1:¬((n:Int) < 0):=by omega
 have h2:¬((c:Int) < n):=by omega
 simp[go_sem,h,h1,h2]
theorem QMk (A:Option Addr)(n c:Nat)(h:n≤c)(w:World):Calls Tryz.prog 24 #[.slice A n c] w fun e w'=>e=.returned (.slice A n n)∧Below w.heap.size w w':=by
 go_enter Tryz.func24,Tryz.ntmps24
 exact JA<|qQ [] (Many.begin w) fun w1 k1=>coR<|qR 5 [] k1 fun w2 k2=>wM (QDg (QTz A n c h w2))<|qE [] k2 fun w3 k3=>JK<|Ju (.slice A n n) ⟨rfl,k3.touch.below⟩
theorem bs0 (w:World):(Instr.buildSlice 26 0 #[]).run Tryz.prog w=.ok (.slice (some ⟨w.heap.size,0,none⟩) 0 0) (w.alloc (.cells #[] 5)):=by simp[go_sem]
theorem CellsIn.off {w w':World} {B n:Nat} {A:Option Addr} {l:List (Int×Int)}(h:CellsIn w B A l)(hn:∀ q,A=some q→n≤q.block)(k:∀ b,n≤b→b < B→w'.heap[b]? = w.heap[b]?):CellsIn w' B A l:=fun j c hc=>by
 obtain⟨p,e,hp,h0,h1⟩:=h j c hc
 exact⟨p,e,hp,(World.cell?_of_block (by rw[add_block];exact k _ (hn p e) hp)).trans h0,(World.cell?_of_block (by rw[add_block,add_block];exact k _ (hn p e) hp)).trans h1⟩
theorem BytesIn.off {w w':World} {B n:Nat} {A:Option Addr} {l:List Int}(h:BytesIn w B A l)(hn:∀ q,A=some q→n≤q.block)(k:∀ b,n≤b→b < B→w'.heap[b]? = w.heap[b]?):BytesIn w' B A l:=fun j c hc=>by
 obtain⟨p,e,hp,h0⟩:=h j c hc
 exact⟨p,e,hp,(World.cell?_of_block (by rw[add_block];exact k _ (hn p e) hp)).trans h0⟩
theorem CysIn.off {w w':World} {B n:Nat} {A:Option Addr} {l:List Cy}(h:CysIn w B A l)(hn:∀ q,A=some q→n≤q.block)(k:∀ b,n≤b→b < B→w'.heap[b]? = w.heap[b]?):CysIn w' B A l:=fun j c hc=>by
 obtain⟨p,e,hp,h0⟩:=h j c hc
 exact⟨p,e,hp,(World.cell?_of_block (by rw[add_block];exact k _ (hn p e) hp)).trans h0⟩
def QTU (w:World)(p:List Int)(e:Ending)(w':World):Prop:=∃ v,e=.returned v∧w'.ownsRow w.heap.size 5 1 v p.length (bvs p)∧Below w.heap.size w w'
theorem QJT {W:World}(A:Option Addr)(c:Nat)(p:List Int)(hin:BytesIn W W.heap.size A p)(hn:A=none→c=0)(hc:p.length≤c)(hl:p.length≤1000000):Calls Tryz.prog 27 #[.slice A p.length c] W (QTU W p):=by
 go_enter Tryz.func27,Tryz.ntmps27
 cases A with
 | none =>
   obtain rfl:=hn rfl
   obtain rfl:p=[]:=List.eq_nil_of_length_eq_zero (by omega)
   exact JA<|qQ [] (Many.begin W) fun w1 k1=>coS<|qQ [] k1 fun w2 k2=>coT<|qQ [] k2 fun w3 k3=>JK<|Qh<|Ju (.slice none 0 0) ⟨_,rfl,World.ownsRow_nil ..,k3.touch.below⟩
 | some q =>
   refine JA<|qQ [] (Many.begin W) fun w1 k1=>coS<|qQ [] k1 fun w2 k2=>coF<|JE<|eoT<|coR<|wM (Zt (bs0 w2)) ?_
   have hb2:=k2.touch.below
   have hB:Below W.heap.size W (w2.alloc (.cells #[] 5)):=hb2.trans ((Below.alloc (Below.refl _ _) (Nat.le_refl _) _).mono hb2.size)
   have own:(w2.alloc (.cells #[] 5)).ownsRow w2.heap.size 5 1 (.slice (some ⟨w2.heap.size,0,none⟩) 0 0) 0 (bvs []):=by
    have:=World.ownsRow_lit (base:=w2.heap.size) (size:=1) (e:=5) w2 #[] 0 (Nat.le_refl _) (by decide) rfl
    exact this
   refine qR 1 [] (Many.begin _) fun w3 k3=>qA (.tmp 5) (.tmp 6) W w2.heap.size W.heap.size (.slice (some ⟨w2.heap.size,0,none⟩) 0 0) 0 [] (some q) c p (hB.trans (k3.touch.below.mono hB.size)) hb2.size (by have:=k3.touch.size;simp at this;omega) (own_below own k3.touch.below) (hin.below (hB.trans (k3.touch.below.mono hB.size))) hn (by omega) fun v4 w4 own4 hB4 hs4=>?_
   rw[Nat.zero_add,List.nil_append] at own4
   refine qE [] (Many.begin w4) fun w5 k5=>?_
   exact JK<|Ju v4 ⟨v4,rfl,own_below (QBd own4 hb2.size) k5.touch.below,hB4.trans (k5.touch.below.mono hB4.size)⟩
section
variable {P:Program} {base:List Value} {l:JV} {w:World} {fn:Func} {R:Ending→World→Prop}
theorem eoK1 {s1:Tmp} {t u:TypeId} {b1:Nat} {cs:Array Value}(r:Row w b1 u cs)(hR:R (.returned (.agg cs)) w)(hres:fn.results=#[.cell s1 t]:=by exact rfl)
 (ht:((P.underlying t).map (·.isRow),(P.info? t).map (·.size))=(some true,some cs.size):=by kernel_rfl)(k1:lkO base s1 l=pT b1 0:=by kernel_rfl):EO (bodyPost P fn R) .ret base l w:=by
 simp only[Prod.mk.injEq] at ht
 cases hu:P.underlying t with
 | none=>rw[hu] at ht;cases ht.1
 | some d =>
   rw[hu] at ht
   have hd:d.isRow=true:=by have:=ht.1;injection this
   have e1:=XM r hu hd ht.2
   refine⟨fun hin=>bodyPost_ret (v:=.agg cs) ?_ (by rfl) hR⟩
   have h1:(XI base l).tmps[s1]?.getD undef=pT b1 0:=by have:=(congrFun (Jc hin) (.tmp s1)).trans k1;simpa [Act.eval] using this
   simp[results,hres,h1,asAddr,e1]
theorem eoK2 {s1 s2:Tmp} {t u:TypeId} {b1:Nat} {cs:Array Value} {V2:Value}(r:Row w b1 u cs)(hR:R (.returned (.tuple #[.agg cs,V2])) w)(hres:fn.results=#[.cell s1 t,.tmp s2]:=by exact rfl)
 (ht:((P.underlying t).map (·.isRow),(P.info? t).map (·.size))=(some true,some cs.size):=by kernel_rfl)(k1:lkO base s1 l=pT b1 0:=by kernel_rfl)(k2:lkO base s2 l=V2:=by kernel_rfl):EO (bodyPost P fn R) .ret base l w:=by
 simp only[Prod.mk.injEq] at ht
 cases hu:P.underlying t with
 | none=>rw[hu] at ht;cases ht.1
 | some d =>
   rw[hu] at ht
   have hd:d.isRow=true:=by have:=ht.1;injection this
   have e1:=XM r hu hd ht.2
   refine⟨fun hin=>bodyPost_ret (v:=.tuple #[.agg cs,V2]) ?_ (by rfl) hR⟩
   have h1:(XI base l).tmps[s1]?.getD undef=pT b1 0:=by have:=(congrFun (Jc hin) (.tmp s1)).trans k1;simpa [Act.eval] using this
   have h2:(XI base l).tmps[s2]?.getD undef=V2:=by have:=(congrFun (Jc hin) (.tmp s2)).trans k2;simpa [Act.eval] using this
   simp[results,hres,h1,h2,asAddr,e1]
theorem eoK3 {s1 s2 s3:Tmp} {t u:TypeId} {b1:Nat} {cs:Array Value} {V2 V3:Value}(r:Row w b1 u cs)(hR:R (.returned (.tuple #[.agg cs,V2,V3])) w)(hres:fn.results=#[.cell s1 t,.tmp s2,.tmp s3]:=by exact rfl)
 (ht:((P.underlying t).map (·.isRow),(P.info? t).map (·.size))=(some true,some cs.size):=by kernel_rfl)(k1:lkO base s1 l=pT b1 0:=by kernel_rfl)(k2:lkO base s2 l=V2:=by kernel_rfl)(k3:lkO base s3 l=V3:=by kernel_rfl):EO (bodyPost P fn R) .ret base l w:=by
 simp only[Prod.mk.injEq] at ht
 cases hu:P.underlying t with
 | none=>rw[hu] at ht;cases ht.1
 | some d =>
   rw[hu] at ht
   have hd:d.isRow=true:=by have:=ht.1;injection this
   have e1:=XM r hu hd ht.2
   refine⟨fun hin=>bodyPost_ret (v:=.tuple #[.agg cs,V2,V3]) ?_ (by rfl) hR⟩
   have h1:(XI base l).tmps[s1]?.getD undef=pT b1 0:=by have:=(congrFun (Jc hin) (.tmp s1)).trans k1;simpa [Act.eval] using this
   have h2:(XI base l).tmps[s2]?.getD undef=V2:=by have:=(congrFun (Jc hin) (.tmp s2)).trans k2;simpa [Act.eval] using this
   have h3:(XI base l).tmps[s3]?.getD undef=V3:=by have:=(congrFun (Jc hin) (.tmp s3)).trans k3;simpa [Act.eval] using this
   simp[results,hres,h1,h2,h3,asAddr,e1]
end
def InW (W:World)(B:Nat)(V:Value)(w:Wd):Prop:=∃ A c A' c',V=Zj w.g (.slice A w.m.length c) (.slice A' w.p.length c')∧CellsIn W B A w.m∧(A=none→c=0)∧w.m.length≤c∧BytesIn W B A' w.p∧(A'=none→c'=0)∧w.p.length≤c'
theorem InW.below {W W':World} {B:Nat} {V:Value} {w:Wd}(h:InW W B V w)(k:Below B W W'):InW W' B V w:=by
 obtain⟨A,c,A',c',h1,h2,h3,h4,h5,h6,h7⟩:=h
 exact⟨A,c,A',c',h1,h2.below k,h3,h4,h5.below k,h6,h7⟩
theorem InW.more {W:World} {B B':Nat} {V:Value} {w:Wd}(h:InW W B V w)(k:B≤B'):InW W B' V w:=by
 obtain⟨A,c,A',c',h1,h2,h3,h4,h5,h6,h7⟩:=h
 exact⟨A,c,A',c',h1,h2.more k,h3,h4,h5.more k,h6,h7⟩
theorem InW.on {W W':World} {V:Value} {w:Wd}(h:InW W W.heap.size V w)(k:Below W.heap.size W W'):InW W' W'.heap.size V w:=(h.below k).more k.size
def InO (W:World)(n:Nat)(V:Value)(w:Wd):Prop:=∃ A c A' c',V=Zj w.g (.slice A w.m.length c) (.slice A' w.p.length c')∧CellsIn W W.heap.size A w.m∧(A=none→c=0)∧w.m.length≤c∧BytesIn W W.heap.size A' w.p∧(A'=none→c'=0)∧w.p.length≤c'∧(∀ q,A=some q→n≤q.block)∧(∀ q,A'=some q→n≤q.block)
theorem InO.kept {S:Nat→Prop} {W W':World} {n:Nat} {V:Value} {w:Wd}(h:InO W n V w)(k:Kept S W W')(hS:∀ b,S b→b < n):InW W' W'.heap.size V w:=by
 obtain⟨A,c,A',c',h1,h2,h3,h4,h5,h6,h7,h8,h9⟩:=h
 exact⟨A,c,A',c',h1,(h2.off h8 fun b e e2=>k.block b e2 fun x=>by have:=hS b x;omega).more k.size,h3,h4,(h5.off h9 fun b e e2=>k.block b e2 fun x=>by have:=hS b x;omega).more k.size,h6,h7⟩
theorem InO.on {W W':World} {n:Nat} {V:Value} {w:Wd}(h:InO W n V w)(k:Below W.heap.size W W'):InO W' n V w:=by
 obtain⟨A,c,A',c',h1,h2,h3,h4,h5,h6,h7,h8,h9⟩:=h
 exact⟨A,c,A',c',h1,(h2.below k).more k.size,h3,h4,(h5.below k).more k.size,h6,h7,h8,h9⟩
theorem InO.keptO {S:Nat→Prop} {W W':World} {n n':Nat} {V:Value} {w:Wd}(h:InO W n V w)(k:Kept S W W')(hS:∀ b,S b→b < n)(hn:n'≤n):InO W' n' V w:=by
 obtain⟨A,c,A',c',h1,h2,h3,h4,h5,h6,h7,h8,h9⟩:=h
 exact⟨A,c,A',c',h1,(h2.off h8 fun b e e2=>k.block b e2 fun x=>by have:=hS b x;omega).more k.size,h3,h4,(h5.off h9 fun b e e2=>k.block b e2 fun x=>by have:=hS b x;omega).more k.size,h6,h7,fun q e=>Nat.le_trans hn (h8 q e),fun q e=>Nat.le_trans hn (h9 q e)⟩
theorem InO.inW {W:World} {n:Nat} {V:Value} {w:Wd}(h:InO W n V w):InW W W.heap.size V w:=h.kept (.refl (fun _=>False) W) fun _ e=>e.elim
theorem QDy {V:Value} {w:Wd}(W:World)(h:InW W W.heap.size V w):Calls Tryz.prog 13 #[V] W fun e W'=>∃ J M P,e=.returned (pT J 0)∧Jny W.heap.size J W' w.g M P none w.m w.p 0 0∧Below W.heap.size W W':=by
 obtain⟨A,c,A',c',rfl,h1,h2,h3,h4,h5,h6⟩:=h
 obtain⟨g,m,p⟩:=w
 go_enter Tryz.func13,Tryz.ntmps13
 refine JA<|qQ [] (Many.begin W) fun w1 k1=>coR<|qR 2 [0] k1 fun w2 k2=>qC (QMk A m.length c h3 w2) k2 fun w3 k3=>qE [0] k3 fun w4 k4=>qQ [0] k4 fun w5 k5=>JK<|Ju (pT w4.heap.size 0) ⟨_,.slice A m.length m.length,.slice A' p.length c',rfl,⟨k5.row 1 (Q0 g (.slice A m.length m.length) (.slice A' p.length c') 0 0).toList (by kernel_rfl),k4.touch.size,.inl ⟨rfl,A,rfl,h1.below k5.touch.below,fun e=>?_⟩,fun e=>(by cases e),A',c',rfl,h6,h4.below k5.touch.below,h5⟩,k5.touch.below⟩
 exact List.eq_nil_of_length_eq_zero (by have:=h2 e;have h3:m.length≤c:=h3;omega)
section
variable {W:World} {B J:Nat} {g:Rg} {M P:Value} {ob:Option Nat} {m:List (Int×Int)} {p:List Int} {k n:Int}
theorem QG3 (h:Jny B J W g M P ob m p k n)(hl:m.length≤900000)(h16:Jg m)(hp:p.length≤1000000):Calls Tryz.prog 15 #[pT J 0] W fun e W'=>∃ V,e=.returned V∧InO W' W.heap.size V ⟨g,mkS m,p⟩∧Below W.heap.size W W':=by
 go_enter Tryz.func15,Tryz.ntmps15
 have hJ:=h.row.lt
 obtain⟨A,c,rfl,hin⟩:=h.mem.slice h.lt
 obtain⟨Ap,cp,rfl,hcp,hip,hnp⟩:=h.por
 refine JA<|qQ [] (Many.begin W) fun w1 k1=>?_
 have hb1:=k1.touch.below
 have rR:Row w1 W.heap.size 28 (Jl JY (.slice none 0 0) (.slice none 0 0)):=k1.row 0 (Jl JY (.slice none 0 0) (.slice none 0 0)).toList (by kernel_rfl)
 have k2:=Many.two (h.row.below hb1 hJ) rR (by omega)
 refine coP (S:=Many w1 [J,W.heap.size] _) 18 k2.drew ?_
 have hb2:Below w1.heap.size w1 w1.drew:=(Below.refl _ _).drew
 obtain⟨w2,hw2⟩:∃ w2,w2=w1.drew:=⟨_,rfl⟩
 have k2:=k2.drew
 rw[←hw2] at hb2 k2 ⊢
 have hB2:Below W.heap.size W w2:=hb1.trans (hb2.mono hb1.size)
 refine qD 0 [0,1,2,3,4,5,6,7,8,9,11,12,13,14,15] k2<|zK 10 (soC (QMr A c m (by omega) h16 w2 ((hin.below hB2).more hB2.size)) fun e w3 ⟨A3,c3,he,hc3,hcc3,hn3,hb3,hq3⟩=>⟨_,he,k2.below hb3,?_⟩)
 have hB3:Below W.heap.size W w3:=hB2.trans (hb3.mono hB2.size)
 have k3:=k2.below hb3
 refine zK 16 (soC (QJT Ap cp p (((hip.more h.lt).below hB3).more hB3.size) hnp hcp hp) fun e w4 ⟨v4,he4,own4,hb4⟩=>⟨_,he4,k3.below hb4,?_⟩)
 obtain⟨A4,c4,rfl,-,-,-⟩:=QB8 own4
 refine qD 0 [17] (k3.below hb4)<|poE<|qE [0] (Many.start ((rR.below hb2 rR.lt) |>.below hb3 (Nat.lt_of_lt_of_le rR.lt hb2.size) |>.below hb4 (Nat.lt_of_lt_of_le rR.lt (Nat.le_trans hb2.size hb3.size)))) fun w5 k5=>JK ?_
 have hB4:Below W.heap.size W w4:=hB3.trans (hb4.mono hB3.size)
 have r5:Row w5 W.heap.size 28 (Jl g (.slice A3 (mkS m).length c3) (.slice A4 p.length c4)):=k5.row 0 (Jl g (.slice A3 (mkS m).length c3) (.slice A4 p.length c4)).toList (by kernel_rfl)
 have q5:Kept (fun b=>b=W.heap.size) w4 w5:=(Kept.of_touch k5.touch).mono fun b _ e=>List.mem_singleton.1 e
 have hs5:=q5.size
 have hR2:W.heap.size < w2.heap.size:=Nat.lt_of_lt_of_le rR.lt hb2.size
 have own5:=q5.own own4 fun b e x=>by have:=(own4.lt b e).1;have x:b=W.heap.size:=x;have:=hb3.size;omega
 obtain⟨A5,c5,e5,hc5,hb5,hn5⟩:=QB8 own5
 injection e5 with e5 e6 e7
 subst e5 e7
 have hq4:=(hc3.below hb4).off hq3 (w':=w5) fun b h1 h2=>q5.block b (Nat.lt_of_lt_of_le h2 hb4.size) (by omega)
 exact eoK1 r5 ⟨_,rfl,⟨A3,c3,A4,c4,rfl,hq4.more (Nat.le_trans hb4.size hs5),hn3,hcc3,hb5,hn5,hc5,fun q e=>by have:=hq3 q e;omega,fun q e=>by
  have:=(own5.lt q.block (by rw[e];rfl)).1
  have:=hb3.size
  omega⟩,q5.low hB4 hB4.size fun b e=>by have e:b=W.heap.size:=e;omega⟩
end
theorem Many.wide {w0 w:World} {L L':List Nat} {rs:List RowK}(h:Many w0 L rs w)(hs:∀ x∈L,x∈L'):Many w0 L' rs w :=
 ⟨h.rows,h.dis,fun i r hr=>(h.own i r hr).imp (hs _) id,h.touch.os,h.touch.tape,h.touch.output,h.touch.size,fun b hb n=>h.touch.block b hb fun e=>n (hs b e)⟩
theorem Many.beside {w0 w:World} {L:List Nat} {rs:List RowK}(h:Many w0 L rs w){b:Nat}(hb:b∈L)(hn:∀ r∈rs,r.b≠b)(o:Nat)(vs:List Value):Many w0 L rs (w.setCells b o vs):=by
 have k:=QFM b vs o (Besides.refl b b w)
 refine⟨fun i r hr=>?_,h.dis,h.own,h.touch.trans ⟨k.os,k.tape,k.output,k.size,fun x hx n=>k.block x hx (fun e=>n (e▸hb)) fun e=>n (e▸hb)⟩⟩
 obtain⟨full,h1,h2⟩:=h.rows i r hr
 exact⟨full,Row.setFar (hn r (List.mem_of_getElem? hr)) vs o h1,h2⟩
theorem soW {P:Program} {ops:Array Oper} {Q:Exit→Act→World→Prop} {base:List Value} {l:JV} {w:World} {S:World→Prop} {n f i:Nat} {listed:Array Bool} {x y:Operand} {b:Nat} {t u:TypeId} {cs ds:Array Value}(hr:Row w b u ds)(hS:S (w.setCells b 0 cs.toList))(h:PO P ops Q S n base f (listed.setIfInBounds i true) l (w.setCells b 0 cs.toList))
 (h1:cs.toList.all (·.oneCell')=true)(hsz:ds.size=cs.size)(ho:(jf ops i).op=.store t x y:=by exact rfl)(hx:evO base l x=pT b 0:=by kernel_rfl)(hy:evO base l y=.agg cs:=by kernel_rfl)(ht:(P.info? t).map (·.size)=some cs.size:=by kernel_rfl)
 (hd:((jf ops i).dst.isNone,decide (i < n),J1 ops base.length base l (jf ops i),(ops[i]?).isSome)=(true,true,some true,true):=by kernel_rfl):SO P ops Q S n base f listed i l w:=by
 simp only[Prod.mk.injEq] at hd
 obtain⟨d1,d2,d3,d4⟩:=hd
 have ho':=QC5 d4
 have hdn:(jf ops i).dst=none:=Option.isNone_iff_eq_none.1 d1
 have e1:(execOp (evO base l) (jf ops i)).run P w=.ok .skip (w.setCells b 0 cs.toList):=QJz (run_storeAt_mid w b 0 t cs (hsz▸hr.there) ht (by rw[←Array.all_toList];exact h1)) ho hx hy
 refine⟨fun hi hr inv=>⟨of_decide_eq_true d2,?_⟩⟩
 unfold wpOp
 simp only[ho',JZ d3 hi,if_true]
 refine .inl ?_
 unfold Oper.wp
 rw[Jc hi,e1,Oper.upon_skip,hdn]
 exact⟨hS,h.h hi (inv.set hr (of_decide_eq_true d2))⟩
def mkW (w:Wd):Wd:=⟨w.g,mkS w.m,w.p⟩
theorem Tabs.belowK {w w':World} {B:Nat}(h:Tabs w B)(k:Below B w w'):Tabs w' B:=h.keep fun b hb=>k.block b hb
theorem QJL (hA:jH){V:Value} {w:Wd}(which v:Int)(W:World)(hw:OkW w)(hv:B8 v)(hl:w.m.length≤800000)(hp:w.p.length≤1000000)(h:InW W W.heap.size V w)(ht:Tabs W W.heap.size) :
 Calls Tryz.prog 29 #[V,.int .i64 which,.int .u8 v] W fun e W'=>∃ V' A c,e=.returned (.tuple #[V',.slice A (Jb w which v).l.length c,.int .i64 (Jb w which v).n])∧InO W' W.heap.size V' (mkW (J5 w which v))∧CysIn W' W'.heap.size A (Jb w which v).l∧(A=none→c=0)∧(Jb w which v).l.length≤c∧Below W.heap.size W W':=by
 have h0:=h
 obtain⟨A,c,A',c',rfl,-⟩:=h0
 obtain⟨g,m,p⟩:=w
 go_enter Tryz.func29,Tryz.ntmps29
 refine JA<|qQ [] (Many.begin W) fun w1 k1=>coR<|qR 1 [0] k1 fun w2 k2=>kX (QDy w2 (h.on k2.touch.below)) fun e w3 ⟨J,M,P,he,hj,hb3⟩=>⟨_,he,qE [] (Many.begin w3) fun w4 k4=>coR<|qR 3 [] k4 fun w5 k5=>?_⟩
 have hb1:=k1.touch.below
 have hb2:=k2.touch.below
 have hb5:=k5.touch.below
 have h25:Below w2.heap.size w2 w5:=hb3.trans (hb5.mono hb3.size)
 have hW5:Below W.heap.size W w5:=hb2.trans (h25.mono hb2.size)
 have r6:Row w2 (W.heap.size+1) 28 (Jl JY (.slice none 0 0) (.slice none 0 0)):=k2.row 1 (Jl JY (.slice none 0 0) (.slice none 0 0)).toList (by kernel_rfl)
 have hj5:=hj.bel hb5
 have t5:Tabs w5 w2.heap.size:=(Tabs.below ht hb2).belowK h25
 have hX:=qn ⟨g,m,p⟩ which v
 have hw':=hw.pstepW hA which hv
 have hn:=QKs ⟨g,m,p⟩ which v
 refine kX (QBK hA hw.g which hv hj5 t5 (by omega) (by omega) hl hw.m hw.p) fun e w6 ⟨A6,c6,he6,hcy,hnn,hle,hqy,M',P',ob',hj6,q6,n6⟩=>⟨_,he6,qE [] (Many.begin w6) fun w7 k7=>?_⟩
 rw[Int.zero_add,Int.zero_add] at hj6
 have hb7:=k7.touch.below
 have hj7:=hj6.bel hb7
 have r5:=r6.below h25 r6.lt
 have hlow:=hj5.low
 have l6:=r6.lt
 have q67:Kept (fun b=>b=J) w5 w7:=(q6.trans (Kept.of_below (S:=fun _=>False) hb7) (fun b e=>e) fun _ _ e=>e.elim).mono fun b _ e=>by
  rcases e with e|e
  · exact e
  · cases e
 have r7:Row w7 (W.heap.size+1) 28 (Jl JY (.slice none 0 0) (.slice none 0 0)):=q67.row r5 fun e=>by have e:W.heap.size+1=J:=e;omega
 have k7:Many w7 [J,W.heap.size+1] [⟨J,46,(Q0 (jD g which (Jb ⟨g,m,p⟩ which v)) M' P' 1 (Jb ⟨g,m,p⟩ which v).n).toList.map some⟩] w7:=(Many.start hj7.row).wide fun x hx=>by simp at hx;simp[hx]
 refine coP (S:=Many w7 [J,W.heap.size+1] [⟨J,46,(Q0 (jD g which (Jb ⟨g,m,p⟩ which v)) M' P' 1 (Jb ⟨g,m,p⟩ which v).n).toList.map some⟩]) 9 k7.drew ?_
 have hb8:Below w7.heap.size w7 w7.drew:=(Below.refl _ _).drew
 obtain⟨w8,hw8⟩:∃ w8,w8=w7.drew:=⟨_,rfl⟩
 have k8:=k7.drew
 rw[←hw8] at hb8 k8 ⊢
 have hj8:=hj7.bel hb8
 have l8:=r7.lt
 have s8:=hb8.size
 refine qD 0 [0,2,3,4,5,6] k8<|zK 1 (soC (QG3 hj8 (Nat.le_trans hX (Nat.le_trans (Nat.add_le_add_right hl 200) (by decide))) hw'.m (Nat.le_trans (zB ⟨g,m,p⟩ which v) hp)) fun e w9 ⟨V9,he9,hO,hb9⟩=>⟨_,he9,k8.below hb9,?_⟩)
 have hO0:=hO
 obtain⟨A9,c9,Ap9,cp9,rfl,-⟩:=hO0
 have r9:=(r7.below hb8 r7.lt).below hb9 (by omega)
 have k9:=(k8.below hb9).beside (b:=W.heap.size+1) (by simp) (fun r hr=>by simp at hr;subst hr;show J≠_;omega) 0 (Jl (jD g which (Jb ⟨g,m,p⟩ which v)) (.slice A9 (mkS (Jb ⟨g,m,p⟩ which v).m).length c9) (.slice Ap9 (Jb ⟨g,m,p⟩ which v).p.length cp9)).toList
 refine zK 7 (soW (cs:=Jl (jD g which (Jb ⟨g,m,p⟩ which v)) (.slice A9 (mkS (Jb ⟨g,m,p⟩ which v).m).length c9) (.slice Ap9 (Jb ⟨g,m,p⟩ which v).p.length cp9)) r9 k9 ?_ (by rfl) rfl)
 obtain⟨wA,hwA⟩:∃ wA,wA=w9.setCells (W.heap.size+1) 0 (Jl (jD g which (Jb ⟨g,m,p⟩ which v)) (.slice A9 (mkS (Jb ⟨g,m,p⟩ which v).m).length c9) (.slice Ap9 (Jb ⟨g,m,p⟩ which v).p.length cp9)).toList:=⟨_,rfl⟩
 have rA:=r9.setAll (vs:=Jl (jD g which (Jb ⟨g,m,p⟩ which v)) (.slice A9 (mkS (Jb ⟨g,m,p⟩ which v).m).length c9) (.slice Ap9 (Jb ⟨g,m,p⟩ which v).p.length cp9)) rfl
 have bA:=QFM (W.heap.size+1) (Jl (jD g which (Jb ⟨g,m,p⟩ which v)) (.slice A9 (mkS (Jb ⟨g,m,p⟩ which v).m).length c9) (.slice Ap9 (Jb ⟨g,m,p⟩ which v).p.length cp9)).toList 0 (Besides.refl (W.heap.size+1) (W.heap.size+1) w9)
 rw[←hwA] at rA bA k9 ⊢
 have qA0:Kept (fun b=>b=W.heap.size+1) w9 wA:=⟨bA.os,bA.tape,bA.output,bA.size,fun b hb n=>bA.block b hb n n⟩
 refine qD 0 [8] k9<|poE<|qE [] (Many.begin wA) fun wB kB=>JK ?_
 have hbB:=kB.touch.below
 have rB:=rA.below hbB rA.lt
 have qA:Kept (fun b=>b=W.heap.size+1) w9 wB:=qA0.trans (Kept.of_below (S:=fun _=>False) hbB) (fun _ e=>e) fun _ _ e=>e.elim
 refine eoK3 rB ⟨_,A6,c6,rfl,hO.keptO qA (fun b e=>by have e:b=W.heap.size+1:=e;omega) (by have:=hW5.size;have:=q67.size;omega),?_,hnn,hle,?_⟩
 · have h79:Below w7.heap.size w7 w9:=hb8.trans (hb9.mono s8)
   have h69:Below w6.heap.size w6 w9:=hb7.trans (h79.mono hb7.size)
   exact ((hcy.below h69).off hqy (w':=wB) fun b h1 h2=>qA.block b (Nat.lt_of_lt_of_le h2 h69.size) (by show ¬b=W.heap.size+1;have:=h25.size;omega)).more (Nat.le_trans h69.size qA.size)
 · have h79:Below w7.heap.size w7 w9:=hb8.trans (hb9.mono s8)
   have q59:Kept (fun b=>b=J) w5 w9:=q67.trans (Kept.of_below (S:=fun _=>False) h79) (fun _ e=>e) fun _ _ e=>e.elim
   have b9:Below W.heap.size W w9:=q59.low hW5 hW5.size fun b e=>by have e:b=J:=e;omega
   exact qA.low b9 b9.size fun b e=>by have e:b=W.heap.size+1:=e;omega
def QAR (a b:Int):Int:=if b < a then b else a
theorem xMin {P:Program} {ρ:Operand→Value} {o:Oper} {x y:Operand}(a b:Int){w:World}(ho:o.op=.call { callee:=.builtin .min,args:=#[x,y],argTypes:=#[3,3] }:=by exact rfl)(hx:ρ x=.int .i64 a:=by kernel_rfl)(hy:ρ y=.int .i64 b:=by kernel_rfl):(execOp ρ o).run P w=.ok (.value (.int .i64 (QAR a b))) w:=by
 unfold execOp
 simp[ho,hx,hy,resolve,invoke,builtin,Builtin.min_,Builtin.min2,Sem.run_bind,Sem.run_pure,Result.andThen_ok,QAR,go_sem]
structure JX where
 k:Nat
 wd:Wd
 st:Int
 M:Value
 P:Value
 ob:Option Nat
 y:Nat→Value
structure JOk (B J:Nat)(Wb:World)(w0:Wd)(q:JX)(W:World):Prop where
 jny:Jny B J W q.wd.g q.M q.P q.ob q.wd.m q.wd.p q.k q.st
 low:Below B Wb W
 ok:OkW q.wd
 ml:q.wd.m.length≤w0.m.length+200*q.k
 pl:q.wd.p.length≤w0.p.length
 s0:0≤q.st
 s1:q.st≤1400*q.k
theorem JOk.bel {B J:Nat} {Wb:World} {w0:Wd} {q:JX} {W W':World}(h:JOk B J Wb w0 q W)(k:Below W.heap.size W W'):JOk B J Wb w0 q W':=⟨h.jny.bel k,h.low.trans (k.mono h.jny.lt),h.ok,h.ml,h.pl,h.s0,h.s1⟩
theorem QJf (hA:jH){B J:Nat} {Wb:World} {w0:Wd} {q:JX} {W:World}(h:JOk B J Wb w0 q W)(hk:q.k < 200)(hl:w0.m.length≤700000)(ht:Tabs Wb B) :
 Calls Tryz.prog 14 #[pT J 0,.int .i64 0,.int .u8 0] W fun e W'=>∃ V M' P' ob',e=.returned V∧∀ y,JOk B J Wb w0 ⟨q.k+1,J5 q.wd 0 0,q.st+(Jb q.wd 0 0).n,M',P',ob',y⟩ W':=by
 obtain⟨k,⟨g,m,p⟩,st,M,P,ob,y0⟩:=q
 have hn:=QKs ⟨g,m,p⟩ 0 0
 have hml:m.length≤w0.m.length+200*k:=h.ml
 have hk:k < 200:=hk
 have hs0:0≤st:=h.s0
 have hs1:st≤1400*k:=h.s1
 refine (QBK hA h.ok.g 0 B8.zero h.jny (ht.keep fun b hb=>h.low.block b hb) (by show 0≤st∧st≤900000;omega) (by show 0≤(k:Int)∧(k:Int)≤1000;omega) (by show m.length≤800000;omega) h.ok.m h.ok.p).mono ?_
 rintro e W' ⟨A,c,he,-,-,-,-,M',P',ob',hj,q',-⟩
 have hX:(Jb ⟨g,m,p⟩ 0 0).m.length≤m.length+200:=qn ⟨g,m,p⟩ 0 0
 have hP:(Jb ⟨g,m,p⟩ 0 0).p.length≤p.length:=zB ⟨g,m,p⟩ 0 0
 refine⟨_,M',P',ob',he,fun y=>⟨hj,q'.low h.low h.jny.lt h.jny.js,h.ok.pstepW hA 0 B8.zero,?_,Nat.le_trans hP h.pl,?_,?_⟩⟩
 · show (Jb ⟨g,m,p⟩ 0 0).m.length≤w0.m.length+200*(k+1)
   omega
 · show 0≤st+(Jb ⟨g,m,p⟩ 0 0).n
   omega
 · show st+(Jb ⟨g,m,p⟩ 0 0).n≤1400*((k+1:Nat):Int)
   omega
def QU3 (V:Value)(n:Int)(a b J:Nat)(x:JX):List Value:=[V,.int .i64 n,pT a 0,x.y 3,pT b 0,.int .i64 0,pT J 0,x.y 7,x.y 8,x.y 9,x.y 10,x.y 11,x.y 12,x.y 13,x.y 14,x.y 15,x.y 16,x.y 17,x.y 18,x.y 19,x.y 20,x.y 21,x.y 22,x.y 23]
def Qy (n:Int):Nat:=(QAR n 200).toNat
theorem QKo (n:Int):Qy n≤200:=by unfold Qy QAR;split<;>omega
theorem QKi (n:Int)(k:Nat):((k:Int) < QAR n 200)↔k < Qy n:=by unfold Qy;omega
theorem QPE (hA:jH){V:Value} {w:Wd}(n:Int)(W:World)(hw:OkW w)(hl:w.m.length≤700000)(hp:w.p.length≤1000000)(h:InW W W.heap.size V w)(ht:Tabs W W.heap.size) :
 Calls Tryz.prog 5 #[V,.int .i64 n] W fun e W'=>∃ V',e=.returned (.tuple #[V',.int .i64 (XF (Qy n) w).2])∧InW W' W'.heap.size V' (mkW (XF (Qy n) w).1)∧Below W.heap.size W W':=by
 have h0:=h
 obtain⟨A,c,A',c',rfl,-⟩:=h0
 go_enter Tryz.func5,Tryz.ntmps5
 refine JA<|qQ [] (Many.begin W) fun w1 k1=>coR<|qR 1 [0] k1 fun w2 k2=>kX (QDy w2 (h.on k2.touch.below)) fun e w3 ⟨J,M,P,he,hj,hb3⟩=>⟨_,he,qE [] (Many.begin w3) fun w4 k4=>coS<|coB<|Zk (QU3 (Zj w.g (.slice A w.m.length c) (.slice A' w.p.length c')) n W.heap.size (W.heap.size+1) J) (fun q W'=>JOk w2.heap.size J w2 w q W'∧q.k≤Qy n∧(XF (Qy n-q.k) q.wd).1=(XF (Qy n) w).1∧q.st+(XF (Qy n-q.k) q.wd).2=(XF (Qy n) w).2) (fun q=>Qy n-q.k) (fun y=>⟨0,w,0,M,P,none,y⟩) ?_ ?_⟩
 · exact⟨⟨hj.bel k4.touch.below,hb3.trans (k4.touch.below.mono hb3.size),hw,Nat.le_refl _,Nat.le_refl _,Int.le_refl _,by show (0:Int)≤1400*((0:Nat):Int);omega⟩,Nat.zero_le _,rfl,by show (0:Int)+_=_;rw[Int.zero_add];rfl⟩
 have hb2:=k2.touch.below
 have r4:Row w2 (W.heap.size+1) 28 (Jl JY (.slice none 0 0) (.slice none 0 0)):=k2.row 1 (Jl JY (.slice none 0 0) (.slice none 0 0)).toList (by kernel_rfl)
 clear k1 k2 k4 hj he
 rintro q W' ⟨hJ,hk,hr1,hr2⟩
 have hq:=hJ.jny
 have hql:=hq.low
 have hm:=hJ.ml
 have t2:=Tabs.below ht hb2
 have hn2:=QKo n
 obtain⟨k,⟨g,m,p⟩,st,M,P,ob,y⟩:=q
 refine coS<|coR<|qR 5 [0] (Many.start hq.row) fun wa ka=>wM (xMin n 200)<|qE [] ka fun wb kb=>coI (decide ((k:Int) < QAR n 200)) (fun hlt=>JE<|eoT<|coB<|coZ<|?_) fun hge=>coX<|qX<|qX<|QEd<|eoT ?_
 all_goals
  have hk:k≤Qy n:=hk
  have hm:m.length≤w.m.length+200*k:=hm
  have hJb:JOk w2.heap.size J w2 w ⟨k,⟨g,m,p⟩,st,M,P,ob,y⟩ wb:=by
   have qb:Kept (fun b=>b=J) W' wb:=(Kept.of_touch kb.touch).mono fun b _ e=>List.mem_singleton.1 e
   have rb:Row wb J 46 (Q0 g M P k st):=kb.row 0 (Q0 g M P k st).toList (by kernel_rfl)
   exact⟨hq.re qb rb (fun b e=>by have e:b=J:=e;exact e▸hq.low) (fun b e x=>hq.off (x▸e)),qb.low hJ.low hq.lt fun b e=>by have e:b=J:=e;exact e▸hq.low,hJ.ok,hJ.ml,hJ.pl,hJ.s0,hJ.s1⟩
 · have hlt:k < Qy n:=(QKi n k).1 (by simpa using hlt)
   refine qR 1 [] (Many.begin wb) fun wc kc=>kX (QJf hA (hJb.bel kc.touch.below) (by show k < 200;omega) hl t2) fun e wd ⟨V',M',P',ob',he,hJ'⟩=>⟨_,he,qF [] (Many.begin wd) fun we ke=>eoB<|QQ (fun y=>⟨k+1,J5 ⟨g,m,p⟩ 0 0,st+(Jb ⟨g,m,p⟩ 0 0).n,M',P',ob',y⟩) ⟨(hJ' _).bel ke.touch.below,hlt,?_,?_⟩ (by show Qy n-(k+1) < Qy n-k;omega)⟩
   · have e:Qy n-k=(Qy n-(k+1))+1:=by omega
     rw[←hr1]
     show _=(XF (Qy n-k) ⟨g,m,p⟩).1
     rw[e];rfl
   · have e:Qy n-k=(Qy n-(k+1))+1:=by omega
     rw[←hr2]
     show st+(Jb ⟨g,m,p⟩ 0 0).n+_=st+(XF (Qy n-k) ⟨g,m,p⟩).2
     rw[e]
     exact Int.add_assoc _ _ _
 · have hkn:Qy n-k=0:=by
    have hge':¬((k:Int) < QAR n 200):=by simpa using hge
    have:¬k < Qy n:=fun e=>hge' ((QKi n k).2 e)
    omega
   have hr1:(XF (Qy n-k) ⟨g,m,p⟩).1=(XF (Qy n) w).1:=hr1
   have hr2:st+(XF (Qy n-k) ⟨g,m,p⟩).2=(XF (Qy n) w).2:=hr2
   rw[hkn] at hr1 hr2
   have hr1:⟨g,m,p⟩=(XF (Qy n) w).1:=hr1
   have hr2:st=(XF (Qy n) w).2:=by rw[←hr2];show st=st+0;omega
   rw[←hr1,←hr2]
   have hjb:=hJb.jny
   have l4:=r4.lt
   have rb:Row wb (W.heap.size+1) 28 (Jl JY (.slice none 0 0) (.slice none 0 0)):=r4.below hJb.low r4.lt
   have k7:Many wb [J,W.heap.size+1] [⟨J,46,(Q0 g M P k st).toList.map some⟩] wb:=(Many.start hjb.row).wide fun x hx=>by simp at hx;simp[hx]
   refine coP (S:=Many wb [J,W.heap.size+1] [⟨J,46,(Q0 g M P k st).toList.map some⟩]) 7 k7.drew ?_
   have hb8:Below wb.heap.size wb wb.drew:=(Below.refl _ _).drew
   obtain⟨w8,hw8⟩:∃ w8,w8=wb.drew:=⟨_,rfl⟩
   have k8:=k7.drew
   rw[←hw8] at hb8 k8 ⊢
   have hj8:=hjb.bel hb8
   have l8:=rb.lt
   have s8:=hb8.size
   refine qD 0 [0,2,3,4,5] k8<|zK 1 (soC (QG3 hj8 (by omega) hJb.ok.m (Nat.le_trans hJb.pl hp)) fun e w9 ⟨V9,he9,hO,hb9⟩=>⟨_,he9,k8.below hb9,?_⟩)
   have hO0:=hO
   obtain⟨A9,c9,Ap9,cp9,rfl,-⟩:=hO0
   have r9:=(rb.below hb8 rb.lt).below hb9 (by omega)
   have k9:=(k8.below hb9).beside (b:=W.heap.size+1) (by simp) (fun r hr=>by simp at hr;subst hr;show J≠_;omega) 0 (Jl g (.slice A9 (mkS m).length c9) (.slice Ap9 p.length cp9)).toList
   refine zK 6 (soW (cs:=Jl g (.slice A9 (mkS m).length c9) (.slice Ap9 p.length cp9)) r9 k9 ?_ (by rfl) rfl)
   obtain⟨wA,hwA⟩:∃ wA,wA=w9.setCells (W.heap.size+1) 0 (Jl g (.slice A9 (mkS m).length c9) (.slice Ap9 p.length cp9)).toList:=⟨_,rfl⟩
   have rA:=r9.setAll (vs:=Jl g (.slice A9 (mkS m).length c9) (.slice Ap9 p.length cp9)) rfl
   have bA:=QFM (W.heap.size+1) (Jl g (.slice A9 (mkS m).length c9) (.slice Ap9 p.length cp9)).toList 0 (Besides.refl (W.heap.size+1) (W.heap.size+1) w9)
   rw[←hwA] at rA bA k9 ⊢
   have qA0:Kept (fun b=>b=W.heap.size+1) w9 wA:=⟨bA.os,bA.tape,bA.output,bA.size,fun b hb n=>bA.block b hb n n⟩
   refine poE<|qE [] (Many.begin wA) fun wB kB=>JK ?_
   have hbB:=kB.touch.below
   have rB:=rA.below hbB rA.lt
   have qA:Kept (fun b=>b=W.heap.size+1) w9 wB:=qA0.trans (Kept.of_below (S:=fun _=>False) hbB) (fun _ e=>e) fun _ _ e=>e.elim
   have b9:Below w2.heap.size w2 w9:=(hJb.low.trans (hb8.mono hjb.lt)).trans (hb9.mono (Nat.le_trans hjb.lt s8))
   refine eoK2 rB ⟨_,rfl,hO.kept qA (fun b e=>by have e:b=W.heap.size+1:=e;omega),?_⟩
   exact qA.low (hb2.trans (b9.mono hb2.size)) (Nat.le_trans hb2.size b9.size) fun b e=>by have e:b=W.heap.size+1:=e;omega
end Go.Proofs.YtbhaojlikgdgjaaGreatDoor
