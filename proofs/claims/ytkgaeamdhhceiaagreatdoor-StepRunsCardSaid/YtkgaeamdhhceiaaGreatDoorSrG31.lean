/- Contracts and facts that the claim's proof wants (several texts in one). -/
import Derived.Shelf.SlSortCmp.NoneTotal
import Derived.Test.YtkgaeamdhhceiaaGreatDoorSrG30
namespace Go.Proofs.YtkgaeamdhhceiaaGreatDoor
open Go.RowKit
set_option linter.unusedVariables false
set_option linter.unusedSimpArgs false
set_option maxRecDepth 20000
set_option maxHeartbeats 20000000
section
section
open Go.Shelf
def Sh.sortC_ren:Go.Shelf.Ren:=⟨fun|6=>64|15=>86|14=>85|28=>131|29=>132|20=>123|21=>124|22=>125|23=>126|24=>127|25=>128|26=>129|27=>130|46=>195|47=>196|48=>197|49=>198|50=>199|57=>266|n=>n,fun|22=>25|24=>67|25=>104|3=>3|39=>118|0=>0|53=>154|55=>156|4=>4|46=>147|45=>146|50=>151|5=>5|9=>9|66=>183|70=>187|76=>198|77=>199|n=>n,fun|n=>n⟩
theorem Sh.sortC:Go.Proofs.SlLaysF0.n6 Tryz.prog Sh.sortC_ren:={
 mixed:=by kernel_rfl
 f6:=⟨Tryz.f64.name,by kernel_rfl,Tryz.func64.trans (congrArg some (by kernel_rfl))⟩
 f14:=⟨Tryz.f85.name,by kernel_rfl,Tryz.func85.trans (congrArg some (by kernel_rfl))⟩
 f15:=Tryz.func86.trans (congrArg some (by kernel_rfl))
 f20:=⟨Tryz.f123.name,by kernel_rfl,Tryz.func123.trans (congrArg some (by kernel_rfl))⟩
 f21:=⟨Tryz.f124.name,by kernel_rfl,Tryz.func124.trans (congrArg some (by kernel_rfl))⟩
 f22:=⟨Tryz.f125.name,by kernel_rfl,Tryz.func125.trans (congrArg some (by kernel_rfl))⟩
 f23:=⟨Tryz.f126.name,by kernel_rfl,Tryz.func126.trans (congrArg some (by kernel_rfl))⟩
 f24:=⟨Tryz.f127.name,by kernel_rfl,Tryz.func127.trans (congrArg some (by kernel_rfl))⟩
 f25:=⟨Tryz.f128.name,by kernel_rfl,Tryz.func128.trans (congrArg some (by kernel_rfl))⟩
 f26:=⟨Tryz.f129.name,by kernel_rfl,Tryz.func129.trans (congrArg some (by kernel_rfl))⟩
 f27:=⟨Tryz.f130.name,by kernel_rfl,Tryz.func130.trans (congrArg some (by kernel_rfl))⟩
 f28:=Tryz.func131.trans (congrArg some (by kernel_rfl))
 f29:=Tryz.func132.trans (congrArg some (by kernel_rfl))
 f46:=⟨Tryz.f195.name,by kernel_rfl,Tryz.func195.trans (congrArg some (by kernel_rfl))⟩
 f47:=Tryz.func196.trans (congrArg some (by kernel_rfl))
 f48:=Tryz.func197.trans (congrArg some (by kernel_rfl))
 f49:=⟨Tryz.f198.name,by kernel_rfl,Tryz.func198.trans (congrArg some (by kernel_rfl))⟩
 f50:=⟨Tryz.f199.name,by kernel_rfl,Tryz.func199.trans (congrArg some (by kernel_rfl))⟩
 f57:=⟨Tryz.f266.name,by kernel_rfl,Tryz.func266.trans (congrArg some (by kernel_rfl))⟩
 t0:=Tryz.underlying0
 a0:=Tryz.isAgg0
 z0:=Tryz.sizeOf0
 v0:=Tryz.zeroValue0
 t3:=Tryz.underlying3
 a3:=Tryz.isAgg3
 z3:=Tryz.sizeOf3
 v3:=Tryz.zeroValue3
 t4:=Tryz.underlying4
 a4:=Tryz.isAgg4
 z4:=Tryz.sizeOf4
 v4:=Tryz.zeroValue4
 t5:=Tryz.underlying5
 a5:=Tryz.isAgg5
 z5:=Tryz.sizeOf5
 v5:=Tryz.zeroValue5
 t9:=Tryz.underlying9
 a9:=Tryz.isAgg9
 z9:=Tryz.sizeOf9
 v9:=Tryz.zeroValue9
 t22:=Tryz.underlying25
 a22:=Tryz.isAgg25
 z22:=Tryz.sizeOf25
 v22:=Tryz.zeroValue25
 t25:=Tryz.underlying104
 a25:=Tryz.isAgg104
 z25:=Tryz.sizeOf104
 v25:=Tryz.zeroValue104
 t39:=Tryz.underlying118
 a39:=Tryz.isAgg118
 z39:=Tryz.sizeOf118
 v39:=Tryz.zeroValue118
 t45:=Tryz.underlying146
 a45:=Tryz.isAgg146
 z45:=Tryz.sizeOf146
 v45:=Tryz.zeroValue146
 t46:=Tryz.underlying147
 a46:=Tryz.isAgg147
 z46:=Tryz.sizeOf147
 v46:=Tryz.zeroValue147
 t50:=Tryz.underlying151
 a50:=Tryz.isAgg151
 z50:=Tryz.sizeOf151
 v50:=Tryz.zeroValue151
 t53:=Tryz.underlying154
 a53:=Tryz.isAgg154
 z53:=Tryz.sizeOf154
 v53:=Tryz.zeroValue154
 t55:=Tryz.underlying156
 a55:=Tryz.isAgg156
 z55:=Tryz.sizeOf156
 v55:=Tryz.zeroValue156
 t66:=Tryz.underlying183
 a66:=Tryz.isAgg183
 z66:=Tryz.sizeOf183
 v66:=Tryz.zeroValue183
 t70:=Tryz.underlying187
 a70:=Tryz.isAgg187
 z70:=Tryz.sizeOf187
 v70:=Tryz.zeroValue187
 t76:=Tryz.underlying198
 a76:=Tryz.isAgg198
 z76:=Tryz.sizeOf198
 v76:=Tryz.zeroValue198
 t77:=Tryz.underlying199
 a77:=Tryz.isAgg199
 z77:=Tryz.sizeOf199
 v77:=Tryz.zeroValue199 }
end
open Go.Shelf Go.Lib Go.Sort
theorem QNJ (x:Int)(w:World):Calls Tryz.prog 87 #[.int .u16 x] w fun e w'=>e=.returned (.bool false)∧w'=w:=by
 go_enter Tryz.func87,Tryz.ntmps87
 go_wp2
 go_ret
 exact⟨rfl,rfl⟩
theorem QKP (x y:Int)(w:World):Calls Tryz.prog 66 #[.int .u16 x,.int .u16 y] w fun e w'=>e=.returned (.int .i64 (Lib.compareInt x y))∧w'=w:=by
 go_enter Tryz.func66,Tryz.ntmps66
 go_wp2_with (go_at_call 87;refine (QNJ _ _).mono ?_;rintro e w' ⟨rfl,rfl⟩)
 all_goals go_ret
 all_goals refine⟨?_,rfl⟩
 all_goals unfold Lib.compareInt
 all_goals first
  | (simp_all;done)
  | (rw[if_neg (show ¬x < y by omega),if_neg (show ¬x > y by omega)];first|rfl|simp)
def QGX (c:Int×Int):List Value:=[.int .u16 c.1,.int .u8 c.2]
theorem QKZ (x y:Int×Int)(W:World):Calls Tryz.prog 65 #[.agg #[.int .u16 x.1,.int .u8 x.2],.agg #[.int .u16 y.1,.int .u8 y.2]] W fun e w'=>e=.returned (.int .i64 (Lib.compareInt x.1 y.1))∧∃ q os',w'=grow (W.drewN q) os':=by
 have hcon:=fun W'=>QKP x.1 y.1 W'
 generalize Lib.compareInt x.1 y.1=r at hcon ⊢
 go_enter Tryz.func65,Tryz.ntmps65
 go_wp2_with (go_at_call 66;refine (hcon _).mono ?_;rintro e w' ⟨rfl,rfl⟩)
 go_ret
 exact⟨rfl,0,_,by rw[alloc_eq_grow,alloc_eq_grow,grow_grow];rfl⟩
theorem QJ9 (blk off size:Nat)(w:World):CmpLays Tryz.prog 65 #[] QGX 2 (fun x y=>Lib.compareInt x.1 y.1) blk off size w :=
 fun _ _ _ _ x y=>QKZ x y _
theorem QSy (x y:Int×Int):ltOf (fun x y:Int×Int=>Lib.compareInt x.1 y.1) x y=decide (x.1 < y.1):=by
 unfold ltOf Lib.compareInt
 by_cases h1:x.1 < y.1
 · simp[h1]
 · by_cases h2:y.1 < x.1<;>simp[h1,h2]
theorem QVf:SWO (ltOf fun x y:Int×Int=>Lib.compareInt x.1 y.1) where
 irrefl x:=by rw[QSy];simp
 trans x y z h1 h2:=by rw[QSy] at *;simp at *;omega
 ntrans x y z h1 h2:=by rw[QSy] at *;simp at *;omega
theorem QRB (l:List (Int×Int))(j:Nat)(hj:j < l.length*2):(cvs l)[j]?=some (QGX l.toArray[j / 2]!)[j%2]!:=by
 have h2:j / 2 < l.length:=by omega
 have e:l.toArray[j / 2]! = l[j / 2]:=by simp[h2]
 rw[e]
 have hd:j=j / 2*2∨j=j / 2*2+1:=by omega
 rcases hd with h|h
 · have hm:j%2=0:=by omega
   rw[hm]
   conv=>lhs;rw[h]
   rw[QC9,List.getElem?_eq_getElem h2]
   rfl
 · have hm:j%2=1:=by omega
   rw[hm]
   conv=>lhs;rw[h]
   rw[QEc,List.getElem?_eq_getElem h2]
   rfl
theorem QOR {W:World} {b g cap:Nat} {l:List (Int×Int)}(h:W.ownsRow b 67 2 (.slice (some ⟨g,0,none⟩) l.length cap) l.length (cvs l)):HoldsK QGX 2 W g 0 l.toArray:=fun j hj=>by
 rw[size_flatK] at hj
 rw[get_flatK _ _ _ _ hj]
 have hj':j < l.length*2:=by simpa using hj
 rw[Nat.zero_add]
 exact⟨(h.cellAt j hj').trans (QRB l j hj'),h.frozenAt j⟩
theorem QKb {W:World} {g:Nat} {l:List (Int×Int)}(h:HoldsK QGX 2 W g 0 l.toArray)(hb:g < W.heap.size):CellsIn W W.heap.size (some ⟨g,0,none⟩) l :=
 CellsIn.of_values hb fun j u hu=>by
  have hj:j < l.length*2:=by
   have:=(List.getElem?_eq_some_iff.1 hu).1
   rwa [zC] at this
  have h1:=(h j (by rw[size_flatK];simpa using hj)).1
  rw[get_flatK _ _ _ _ (by simpa using hj)] at h1
  rw[QRB l j hj] at hu
  have e:(⟨g,0,none⟩:Addr).add j=⟨g,0+j,none⟩:=by
   unfold Addr.add
   split
   · rename_i h0;rw[h0]
   · simp
  rw[e]
  exact h1.trans (by simpa using hu)
theorem QH5 (W:World)(blk n:Nat)(d:Array (Int×Int))(os:Array Obj):W.grownBy (sortWorldK QGX 2 W blk 0 n d os) (some blk):=by
 refine⟨rfl,rfl,rfl,?_,fun i hi hne=>?_⟩
 · unfold sortWorldK putRowK
   rw[size_grow,size_putRow]
   exact Nat.le_add_right _ _
 · unfold sortWorldK
   rw[heap_grow_old _ _ (by unfold putRowK;rw[size_putRow];exact hi)]
   unfold putRowK putRow mapBlock
   show (W.heap.modify blk _)[i]?=_
   rw[Array.getElem?_modify,if_neg (by intro e;exact hne (by rw[e]))]
theorem QNM (blk cap:Nat)(l:List (Int×Int))(hl:l.length≤1000000000)(w:World)(hH:HoldsK QGX 2 w blk 0 l.toArray)(hblk:blk < w.heap.size) :
 Calls Tryz.prog 64 #[.slice (some ⟨blk,0,none⟩) l.length cap,.func (.func 65) #[] #[]] w fun e w'=>e=.returned (.tuple #[])∧∃ d:List (Int×Int),d.Perm l∧d.Pairwise (fun x y=>x.1≤y.1)∧CellsIn w' w'.heap.size (some ⟨blk,0,none⟩) d∧w.grownBy w' (some blk):=by
 have eg:∀ args w,(callFunc 65 args).run Tryz.prog w=.ok (.enter 65 args) w:=enters_of Tryz.func65 (by kernel_rfl) rfl
 have hcon:=AnyQ.slices_SortFunc Sh.sortC 2 Tryz.isAgg67 Tryz.sizeOf67 QGX (fun _=>rfl) (fun x v hv=>by simp[QGX] at hv;rcases hv with rfl|rfl<;>rfl) (fun x y=>Lib.compareInt x.1 y.1) QVf 65 #[] blk 0 cap l.toArray w eg (QJ9 blk 0 l.toArray.size w) hH hblk (by simp;omega)
 change Calls Tryz.prog 64 _ _ _ at hcon
 have e0:l.toArray.size=l.length:=by simp
 rw[e0] at hcon
 refine hcon.mono ?_
 rintro e w' ⟨rfl,d',n,os,⟨p1,p2,p3⟩,hs,rfl⟩
 have hsz:d'.size=l.length:=by rw[p1,e0]
 have hH':=holdsK_sortWorldK_c QGX 2 w blk 0 l.toArray d' n os hH hblk p1
 refine⟨rfl,d'.toList,?_,?_,?_,QH5 w blk n d' os⟩
 · have e1:d'.extract 0 l.length=d':=by rw[←hsz];simp
   have e2:l.toArray.extract 0 l.length=l.toArray:=by rw[←e0];simp
   rw[e1,e2] at p3
   simpa using p3
 · rw[List.pairwise_iff_getElem]
   intro i j hi hj hij
   have hi':i < d'.size:=by simpa using hi
   have hj':j < d'.size:=by simpa using hj
   have:=hs i j (Nat.zero_le _) hij (by omega)
   rw[QSy,getElem!_pos d' j hj',getElem!_pos d' i hi'] at this
   simp at this
   simpa using this
 · refine QKb (l:=d'.toList) (by simpa using hH') ?_
   exact Nat.lt_of_lt_of_le hblk (size_sortWorldK_c QGX 2 w blk 0 n d' os)
end
theorem QVd (A:Option Addr)(n c:Nat)(h:n≤c)(w:World):(Instr.sliceAt 25 (.slice A n c) none (some (.int .i64 (n:Int))) (some (.int .i64 (n:Int)))).run Tryz.prog w=.ok (.slice A n n) w:=by
 have h1:¬((n:Int) < 0):=by omega
 have h2:¬(c < n):=by omega
 simp[go_sem,h1,h2]
theorem QM7 {base n:Nat} {v:Value} {l:List (Int×Int)}(hl:l.length≤1000000000)(w:World)(hown:w.ownsRow base 67 2 v l.length (cvs l)) :
 Calls Tryz.prog 64 #[v,.func (.func 65) #[] #[]] w fun e w'=>e=.returned (.tuple #[])∧∃ (A:Option Addr) (c:Nat) (d:List (Int×Int)),v=.slice A l.length c∧d.Perm l∧d.Pairwise (fun x y=>x.1≤y.1)∧CellsIn w' w'.heap.size A d∧l.length≤c∧(A=none→l.length=0)∧w.grownBy w' v.ownBlock:=by
 by_cases h0:l=[]
 · subst h0
   obtain⟨A,c,rfl,hc,hci,hn⟩:=Qq hown
   refine (AnyF.slices_SortFunc_none (P:=Tryz.prog) (ρ:=Sh.sortC_ren) { Sh.sortC with } A c _ w).mono ?_
   rintro e w' ⟨rfl,rfl⟩
   exact⟨rfl,A,c,[],rfl,.refl _,.nil,CellsIn.nil _ _ _,hc,fun _=>rfl,⟨rfl,rfl,rfl,Nat.le_refl _,fun _ _ _=>rfl⟩⟩
 · have hpos:0 < l.length:=by cases l with
                               | nil=>exact absurd rfl h0
                               | cons c r=>simp
   rcases hown.2 with ⟨-,e2⟩|⟨g,cap,cur,e1,-,hh,hle,-⟩
   · omega
   · subst e1
     refine (QNM g cap l hl w (QOR hown) (Array.getElem?_eq_some_iff.1 hh).1).mono ?_
     rintro e w' ⟨rfl,d,hp,hs,hci,hg⟩
     exact⟨rfl,_,cap,d,rfl,hp,hs,hci,hle,(fun e=>by cases e),hg⟩
structure QTN where
 ss:List (Int×Int)
 v:Value
 left:Int→Bool
 cnt:Nat
 y:Nat→Value
def QU3 (b r:Nat)(x:QTN):List Value:=[.map (some b),x.y 1,x.y 2,x.v,x.y 4,x.y 5,x.y 6,.pointer (some ⟨r,0,none⟩),x.y 8,x.y 9,x.y 10,x.y 11,x.y 12,x.y 13,x.y 14,x.y 15,x.y 16,x.y 17,x.y 18,x.y 19,x.y 20,x.y 21,x.y 22,x.y 23,x.y 24,x.y 25,x.y 26]
def QUE (w:World)(b r n:Nat)(m:List (Int×Int))(x:QTN)(W:World):Prop:=Below w.heap.size w W∧W.ownsRow (r+1) 67 2 x.v x.ss.length (cvs x.ss)∧RangeAt W b r n m x.left x.cnt∧(∀ p,p∈x.ss↔p∈m∧x.left p.1=false)∧x.ss.Pairwise (fun p q=>p.1≠q.1)∧x.ss.length+x.cnt≤m.length
def QPw (w:World)(m:List (Int×Int))(e:Ending)(w':World):Prop:=∃ A' c,e=.returned (.slice A' m.length c)∧CellsIn w' w'.heap.size A' m∧m.length≤c∧(A'=none→c=0)∧Below w.heap.size w w'∧∀ q,A'=some q→w.heap.size≤q.block
theorem QND (b n:Nat)(m:List (Int×Int))(hs:Srt m)(hl:m.length≤100000000)(w:World)(hM:MapAt w b n m) :
 Calls Tryz.prog 46 #[.map (some b)] w (QPw w m):=by
 go_enter Tryz.func46,Tryz.ntmps46
 refine JB<|qQ [] (Many.begin w) fun w1 k1=>qQ [] k1 fun w2 k2=>coS<|coR<|qR 1 [] k2 fun w3 k3=>?_
 have hM3:=hM.below k3.touch.below
 obtain⟨w4,r1,r2,r3⟩:=hM3.range
 obtain⟨r,hr⟩:∃ r,r=w3.heap.size:=⟨_,rfl⟩
 have hB4:Below w.heap.size w w4:=k3.touch.below.trans (r3.mono k3.touch.size)
 have hbr:b < r:=by rw[hr];exact hM3.lt
 have hwr:w.heap.size≤r:=by rw[hr];exact k3.touch.size
 rw[←hr] at r2
 refine wM (QUD r1)<|qE [] (Many.begin w4) fun w5 k5=>coB<|ZN (QU3 b r) (QUE w b r n m) (fun x=>x.cnt) (fun y=>⟨[],.slice none 0 0,fun x=>m.any fun p=>decide (p.1=x),m.length,y⟩) ⟨bOn hB4 k5,World.ownsRow_nil ..,r2.below k5.touch.below,?_,List.Pairwise.nil,by show 0+m.length≤m.length;omega⟩ ?_ (by rw[hr];kernel_rfl)
 · intro p
   constructor
   · intro h;cases h
   · rintro ⟨h1,h2⟩
     rw[List.any_eq_false] at h2
     exact absurd (decide_eq_true rfl) (h2 p h1)
 clear r1 r2 r3 hB4 hM3 k5 k3 hr
 rintro ⟨ss,v,left,cnt,y⟩ W ⟨hB,hown,hR,hmem,hpw,hlen⟩
 have hown:W.ownsRow (r+1) 67 2 v ss.length (cvs ss):=hown
 have hR:RangeAt W b r n m left cnt:=hR
 have hmem:∀ p,p∈ss↔p∈m∧left p.1=false:=hmem
 have hpw:ss.Pairwise (fun p q=>p.1≠q.1):=hpw
 have hlen:ss.length+cnt≤m.length:=hlen
 rcases hR.next 0 with ⟨hl0,hrun⟩|⟨x,c,w6,cnt',hx,hc,hlx,hxm,hrun,hR6,hlt,hg6,hen⟩
 · refine coR<|wM (QTK hrun)<|qE [] (Many.begin W) fun wa ka=>coS<|coF<|coX<|X8<|X8<|QAe<|eoT<|coR<|qR 1 [] ka fun wb kb=>?_
   have hownb:=own_below hown kb.touch.below
   refine kO (QM7 (n:=0) (by omega) wb hownb) ?_
   rintro wc ⟨A,cp,d,rfl,hp,hsd,hci,hcp,hA,hg⟩
   have hBc:Below w.heap.size w wc:=XA (bOn hB kb) hg hownb (by omega) (bOn hB kb).size
   have hds:Srt d:=by
    have h1:d.Pairwise (fun p q=>p.1≠q.1):=(hp.pairwise_iff (fun {a b} (h:a.1≠b.1)=>h.symm)).2 hpw
    have h2:=hsd.and h1
    exact h2.imp fun {a b} ⟨h3,h4⟩=>by omega
   have hdm:d=m:=QDe hds hs fun p=>by
    rw[hp.mem_iff,hmem]
    exact⟨fun h=>h.1,fun h=>⟨h,hl0 _⟩⟩
   have hln:ss.length=m.length:=by rw[←hdm,hp.length_eq]
   subst hdm
   refine qE [] (Many.begin wc) fun wd kd=>coR<|qR 5 [] kd fun we ke=>?_
   refine wM (QDG (QVd A ss.length cp hcp _))<|qE [] ke fun wf kf=>JJ<|J8 (.slice A ss.length ss.length) ⟨A,d.length,?_,(hci.below kf.touch.below).more kf.touch.size,Nat.le_refl _,fun e=>hln▸hA e,bOn hBc kf,fun q e=>by have:=(hownb.lt q.block (by rw[e];rfl)).1;omega⟩
   rw[hln]
 · refine coR<|wM (QTK hrun)<|wM (QPu (.bool true) #[.bool true,.int .u16 x,.int .u8 c])<|wT<|coS<|coT<|JE<|eoT<|coB<|coR<|wM (QTj hen)<|qE [] (Many.begin w6) fun wa ka=>?_
   have hB6:Below w.heap.size w w6:=qz hB hg6 hwr hB.size
   have hown6:w6.ownsRow (r+1) 67 2 v ss.length (cvs ss):=hown.kept hg6 (by
    cases h:v.ownBlock with
    | none=>exact .inl rfl
    | some g=>exact .inr fun e=>by cases e;have:=(hown.lt _ h).1;omega)
   refine coZ<|qR 4 [] ka fun wb kb=>wM (XD (bsC x c wb))<|?_
   have hownb:=(own_below hown6 kb.touch.below).alloc (.cells #[.int .u16 x,.int .u8 c] 67)
   have hRb:=(hR6.below kb.touch.below)
   have hRb':RangeAt (wb.alloc (.cells #[.int .u16 x,.int .u8 c] 67)) b r n m _ cnt':=hRb.below (Below.alloc (Below.refl _ _) (Nat.le_refl _) _)
   refine qAc (.tmp 13) (.tmp 17) (r+1) _ v ss.length ss (some ⟨wb.heap.size,0,none⟩) 1 [(x,c)] hRb'.lt hownb (QAZ wb x c _) (fun e=>by cases e) (by show ss.length+1≤_;omega) fun v' wc own' g'=>?_
   have hne:∀ q,q≤r→some q≠v.ownBlock:=fun q hq e=>by have:=(hownb.lt q e.symm).1;omega
   have hBc:=XA (XT (bOn hB6 kb) _) g' hownb (by omega) (XT (bOn hB6 kb) _).size
   refine qF [] (Many.begin wc) fun wd kd=>eoB<|Qk (fun y=>⟨ss++[(x,c)],v',fun z=>left z&&!decide (z=x),cnt',y⟩) ⟨bOn hBc kd,?_,(hRb'.grown g' (hne b (by omega)) (hne r (Nat.le_refl _))).below kd.touch.below,?_,?_,?_⟩ hlt
   · show wd.ownsRow _ _ _ v' (ss++[(x,c)]).length _
     rw[List.length_append]
     exact own_below own' kd.touch.below
   · intro p
     show p∈ss++[(x,c)]↔p∈m∧(left p.1&&!decide (p.1=x))=false
     rw[List.mem_append,hmem,List.mem_singleton]
     constructor
     · rintro (⟨h1,h2⟩|rfl)
       · exact⟨h1,by rw[h2];rfl⟩
       · exact⟨hxm,by simp⟩
     · rintro ⟨h1,h2⟩
       by_cases e:p.1=x
       · exact .inr (QME hs h1 hxm e)
       · rw[decide_eq_false e] at h2
         exact .inl ⟨h1,by simpa using h2⟩
   · show (ss++[(x,c)]).Pairwise _
     rw[List.pairwise_append]
     refine⟨hpw,List.pairwise_singleton _ _,fun p hp q hq=>?_⟩
     rw[List.mem_singleton] at hq
     subst hq
     intro e
     have e:p.1=x:=e
     have:=((hmem p).1 hp).2
     rw[e,hlx] at this
     cases this
   · show (ss++[(x,c)]).length+cnt'≤m.length
     simp
     omega
theorem Gives.on {w w1 w2:World} {m:List (Int×Int)} {e:Ending}(hB:Below w.heap.size w w1)(h:Gives w1 m e w2):Gives w m e w2:=by
 obtain⟨A',c,h1,h2,h3,h4,h5⟩:=h
 exact⟨A',c,h1,h2,h3,h4,hB.trans (h5.mono hB.size)⟩
theorem QMx (A:Option Addr)(cap:Nat)(l:List (Int×Int))(hl:l.length≤100000000)(h16:QL l)(w:World)(hin:CellsIn w w.heap.size A l) :
 Calls Tryz.prog 32 #[.slice A l.length cap] w (QPw w (mkS l)):=by
 go_enter Tryz.func32,Tryz.ntmps32
 refine JB<|qQ [] (Many.begin w) fun w1 k1=>coR<|qR 1 [] k1 fun w2 k2=>kX (QIj A cap l (by omega) h16 w2 ((hin.below k2.touch.below).more k2.touch.size)) ?_
 rintro e w3 ⟨b,hb,rfl,hM,hB⟩
 have hB3:Below w.heap.size w w3:=k2.touch.below.trans (hB.mono k2.touch.size)
 refine⟨_,rfl,kX (QND b _ (mkS l) (QBw l) (Nat.le_trans (QB7 l) hl) w3 hM) ?_⟩
 rintro e w4 ⟨A',c,rfl,g1,g2,g3,g4,g5⟩
 refine⟨_,rfl,qE [] (Many.begin w4) fun w5 k5=>JJ<|J8 (.slice A' (mkS l).length c) ⟨A',c,rfl,(g1.below k5.touch.below).more k5.touch.size,g2,g3,bOn (hB3.trans (g4.mono hB3.size)) k5,fun q e=>Nat.le_trans hB3.size (g5 q e)⟩⟩
theorem QUm (A:Option Addr)(n c:Nat)(h:n≤c)(w:World):(Instr.sliceAt 25 (.slice A n c) none (some (.int .i64 (n:Int))) (some (.int .i64 (n:Int)))).run Tryz.prog w=.ok (.slice A n n) w:=by
 have h1:¬((n:Int) < 0):=by omega
 have h2:¬((c:Int) < n):=by omega
 simp[go_sem,h,h1,h2]
theorem QOP (A:Option Addr)(n c:Nat)(h:n≤c)(w:World):Calls Tryz.prog 30 #[.slice A n c] w fun e w'=>e=.returned (.slice A n n)∧Below w.heap.size w w':=by
 go_enter Tryz.func30,Tryz.ntmps30
 exact JB<|qQ [] (Many.begin w) fun w1 k1=>coR<|qR 5 [] k1 fun w2 k2=>wM (QDG (QUm A n c h w2))<|qE [] k2 fun w3 k3=>JJ<|J8 (.slice A n n) ⟨rfl,k3.touch.below⟩
theorem bs0 (w:World):(Instr.buildSlice 26 0 #[]).run Tryz.prog w=.ok (.slice (some ⟨w.heap.size,0,none⟩) 0 0) (w.alloc (.cells #[] 5)):=by simp[go_sem]
theorem CellsIn.off {w w':World} {B n:Nat} {A:Option Addr} {l:List (Int×Int)}(h:CellsIn w B A l)(hn:∀ q,A=some q→n≤q.block)(k:∀ b,n≤b→b < B→w'.heap[b]?=w.heap[b]?):CellsIn w' B A l:=fun j c hc=>by
 obtain⟨p,e,hp,h0,h1⟩:=h j c hc
 exact⟨p,e,hp,(World.cell?_of_block (by rw[add_block];exact k _ (hn p e) hp)).trans h0,(World.cell?_of_block (by rw[add_block,add_block];exact k _ (hn p e) hp)).trans h1⟩
theorem BytesIn.off {w w':World} {B n:Nat} {A:Option Addr} {l:List Int}(h:BytesIn w B A l)(hn:∀ q,A=some q→n≤q.block)(k:∀ b,n≤b→b < B→w'.heap[b]?=w.heap[b]?):BytesIn w' B A l:=fun j c hc=>by
 obtain⟨p,e,hp,h0⟩:=h j c hc
 exact⟨p,e,hp,(World.cell?_of_block (by rw[add_block];exact k _ (hn p e) hp)).trans h0⟩
theorem CysIn.off {w w':World} {B n:Nat} {A:Option Addr} {l:List Cy}(h:CysIn w B A l)(hn:∀ q,A=some q→n≤q.block)(k:∀ b,n≤b→b < B→w'.heap[b]?=w.heap[b]?):CysIn w' B A l:=fun j c hc=>by
 obtain⟨p,e,hp,h0⟩:=h j c hc
 exact⟨p,e,hp,(World.cell?_of_block (by rw[add_block];exact k _ (hn p e) hp)).trans h0⟩
def QTy (w:World)(p:List Int)(e:Ending)(w':World):Prop:=∃ v,e=.returned v∧w'.ownsRow w.heap.size 5 1 v p.length (bvs p)∧Below w.heap.size w w'
theorem QLP {W:World}(A:Option Addr)(c:Nat)(p:List Int)(hin:BytesIn W W.heap.size A p)(hn:A=none→c=0)(hc:p.length≤c)(hl:p.length≤1000000):Calls Tryz.prog 33 #[.slice A p.length c] W (QTy W p):=by
 go_enter Tryz.func33,Tryz.ntmps33
 cases A with
 | none =>
   obtain rfl:=hn rfl
   obtain rfl:p=[]:=List.eq_nil_of_length_eq_zero (by omega)
   exact JB<|qQ [] (Many.begin W) fun w1 k1=>coS<|qQ [] k1 fun w2 k2=>coT<|qQ [] k2 fun w3 k3=>JJ<|QF<|J8 (.slice none 0 0) ⟨_,rfl,World.ownsRow_nil ..,k3.touch.below⟩
 | some q =>
   refine JB<|qQ [] (Many.begin W) fun w1 k1=>coS<|qQ [] k1 fun w2 k2=>coF<|JE<|eoT<|coR<|wM (XD (bs0 w2)) ?_
   have hb2:=k2.touch.below
   have hB:Below W.heap.size W (w2.alloc (.cells #[] 5)):=hb2.trans ((Below.alloc (Below.refl _ _) (Nat.le_refl _) _).mono hb2.size)
   have own:(w2.alloc (.cells #[] 5)).ownsRow w2.heap.size 5 1 (.slice (some ⟨w2.heap.size,0,none⟩) 0 0) 0 (bvs []):=by
    have:=World.ownsRow_lit (base:=w2.heap.size) (size:=1) (e:=5) w2 #[] 0 (Nat.le_refl _) (by decide) rfl
    exact this
   refine qR 1 [] (Many.begin _) fun w3 k3=>qA (.tmp 5) (.tmp 6) W w2.heap.size W.heap.size (.slice (some ⟨w2.heap.size,0,none⟩) 0 0) 0 [] (some q) c p (hB.trans (k3.touch.below.mono hB.size)) hb2.size (by have:=k3.touch.size;simp at this;omega) (own_below own k3.touch.below) (hin.below (hB.trans (k3.touch.below.mono hB.size))) hn (by omega) fun v4 w4 own4 hB4 hs4=>?_
   rw[Nat.zero_add,List.nil_append] at own4
   refine qE [] (Many.begin w4) fun w5 k5=>?_
   exact JJ<|J8 v4 ⟨v4,rfl,own_below (QAu own4 hb2.size) k5.touch.below,hB4.trans (k5.touch.below.mono hB4.size)⟩
section
variable {P:Program} {base:List Value} {l:Jy} {w:World} {fn:Func} {R:Ending→World→Prop}
theorem eoK1 {s1:Tmp} {t u:TypeId} {b1:Nat} {cs:Array Value}(r:Row w b1 u cs)(hR:R (.returned (.agg cs)) w)(hres:fn.results=#[.cell s1 t]:=by exact rfl)
 (ht:((P.underlying t).map (·.isRow),(P.info? t).map (·.size))=(some true,some cs.size):=by kernel_rfl)(k1:lkO base s1 l=pT b1 0:=by kernel_rfl):EO (bodyPost P fn R) .ret base l w:=by
 simp only[Prod.mk.injEq] at ht
 cases hu:P.underlying t with
 | none=>rw[hu] at ht;cases ht.1
 | some d =>
   rw[hu] at ht
   have hd:d.isRow=true:=by have:=ht.1;injection this
   have e1:=ZM r hu hd ht.2
   refine⟨fun hin=>bodyPost_ret (v:=.agg cs) ?_ (by rfl) hR⟩
   have h1:(ZL base l).tmps[s1]?.getD undef=pT b1 0:=by have:=(congrFun (J9 hin) (.tmp s1)).trans k1;simpa [Act.eval] using this
   simp[results,hres,h1,asAddr,e1]
theorem QSK {s1 s2:Tmp} {t u:TypeId} {b1:Nat} {cs:Array Value} {V2:Value}(r:Row w b1 u cs)(hR:R (.returned (.tuple #[.agg cs,V2])) w)(hres:fn.results=#[.cell s1 t,.tmp s2]:=by exact rfl)
 (ht:((P.underlying t).map (·.isRow),(P.info? t).map (·.size))=(some true,some cs.size):=by kernel_rfl)(k1:lkO base s1 l=pT b1 0:=by kernel_rfl)(k2:lkO base s2 l=V2:=by kernel_rfl):EO (bodyPost P fn R) .ret base l w:=by
 simp only[Prod.mk.injEq] at ht
 cases hu:P.underlying t with
 | none=>rw[hu] at ht;cases ht.1
 | some d =>
   rw[hu] at ht
   have hd:d.isRow=true:=by have:=ht.1;injection this
   have e1:=ZM r hu hd ht.2
   refine⟨fun hin=>bodyPost_ret (v:=.tuple #[.agg cs,V2]) ?_ (by rfl) hR⟩
   have h1:(ZL base l).tmps[s1]?.getD undef=pT b1 0:=by have:=(congrFun (J9 hin) (.tmp s1)).trans k1;simpa [Act.eval] using this
   have h2:(ZL base l).tmps[s2]?.getD undef=V2:=by have:=(congrFun (J9 hin) (.tmp s2)).trans k2;simpa [Act.eval] using this
   simp[results,hres,h1,h2,asAddr,e1]
theorem QUR {s1 s2 s3:Tmp} {t u:TypeId} {b1:Nat} {cs:Array Value} {V2 V3:Value}(r:Row w b1 u cs)(hR:R (.returned (.tuple #[.agg cs,V2,V3])) w)(hres:fn.results=#[.cell s1 t,.tmp s2,.tmp s3]:=by exact rfl)
 (ht:((P.underlying t).map (·.isRow),(P.info? t).map (·.size))=(some true,some cs.size):=by kernel_rfl)(k1:lkO base s1 l=pT b1 0:=by kernel_rfl)(k2:lkO base s2 l=V2:=by kernel_rfl)(k3:lkO base s3 l=V3:=by kernel_rfl):EO (bodyPost P fn R) .ret base l w:=by
 simp only[Prod.mk.injEq] at ht
 cases hu:P.underlying t with
 | none=>rw[hu] at ht;cases ht.1
 | some d =>
   rw[hu] at ht
   have hd:d.isRow=true:=by have:=ht.1;injection this
   have e1:=ZM r hu hd ht.2
   refine⟨fun hin=>bodyPost_ret (v:=.tuple #[.agg cs,V2,V3]) ?_ (by rfl) hR⟩
   have h1:(ZL base l).tmps[s1]?.getD undef=pT b1 0:=by have:=(congrFun (J9 hin) (.tmp s1)).trans k1;simpa [Act.eval] using this
   have h2:(ZL base l).tmps[s2]?.getD undef=V2:=by have:=(congrFun (J9 hin) (.tmp s2)).trans k2;simpa [Act.eval] using this
   have h3:(ZL base l).tmps[s3]?.getD undef=V3:=by have:=(congrFun (J9 hin) (.tmp s3)).trans k3;simpa [Act.eval] using this
   simp[results,hres,h1,h2,h3,asAddr,e1]
end
def InW (W:World)(B:Nat)(V:Value)(w:Wd):Prop:=∃ A c A' c',V=Q2 w.g (.slice A w.m.length c) (.slice A' w.p.length c')∧CellsIn W B A w.m∧(A=none→c=0)∧w.m.length≤c∧BytesIn W B A' w.p∧(A'=none→c'=0)∧w.p.length≤c'
theorem InW.below {W W':World} {B:Nat} {V:Value} {w:Wd}(h:InW W B V w)(k:Below B W W'):InW W' B V w:=by
 obtain⟨A,c,A',c',h1,h2,h3,h4,h5,h6,h7⟩:=h
 exact⟨A,c,A',c',h1,h2.below k,h3,h4,h5.below k,h6,h7⟩
theorem InW.more {W:World} {B B':Nat} {V:Value} {w:Wd}(h:InW W B V w)(k:B≤B'):InW W B' V w:=by
 obtain⟨A,c,A',c',h1,h2,h3,h4,h5,h6,h7⟩:=h
 exact⟨A,c,A',c',h1,h2.more k,h3,h4,h5.more k,h6,h7⟩
theorem InW.on {W W':World} {V:Value} {w:Wd}(h:InW W W.heap.size V w)(k:Below W.heap.size W W'):InW W' W'.heap.size V w:=(h.below k).more k.size
def InO (W:World)(n:Nat)(V:Value)(w:Wd):Prop:=∃ A c A' c',V=Q2 w.g (.slice A w.m.length c) (.slice A' w.p.length c')∧CellsIn W W.heap.size A w.m∧(A=none→c=0)∧w.m.length≤c∧BytesIn W W.heap.size A' w.p∧(A'=none→c'=0)∧w.p.length≤c'∧(∀ q,A=some q→n≤q.block)∧(∀ q,A'=some q→n≤q.block)
theorem InO.kept {S:Nat→Prop} {W W':World} {n:Nat} {V:Value} {w:Wd}(h:InO W n V w)(k:Kept S W W')(hS:∀ b,S b→b < n):InW W' W'.heap.size V w:=by
 obtain⟨A,c,A',c',h1,h2,h3,h4,h5,h6,h7,h8,h9⟩:=h
 exact⟨A,c,A',c',h1,(h2.off h8 fun b e e2=>k.block b e2 fun x=>by have:=hS b x;omega).more k.size,h3,h4,(h5.off h9 fun b e e2=>k.block b e2 fun x=>by have:=hS b x;omega).more k.size,h6,h7⟩
theorem InO.on {W W':World} {n:Nat} {V:Value} {w:Wd}(h:InO W n V w)(k:Below W.heap.size W W'):InO W' n V w:=by
 obtain⟨A,c,A',c',h1,h2,h3,h4,h5,h6,h7,h8,h9⟩:=h
 exact⟨A,c,A',c',h1,(h2.below k).more k.size,h3,h4,(h5.below k).more k.size,h6,h7,h8,h9⟩
theorem InO.inW {W:World} {n:Nat} {V:Value} {w:Wd}(h:InO W n V w):InW W W.heap.size V w:=h.kept (.refl (fun _=>False) W) fun _ e=>e.elim
theorem QCL {V:Value} {w:Wd}(W:World)(h:InW W W.heap.size V w):Calls Tryz.prog 26 #[V] W fun e W'=>∃ J M P,e=.returned (pT J 0)∧Jny W.heap.size J W' w.g M P none w.m w.p 0 0∧Below W.heap.size W W':=by
 obtain⟨A,c,A',c',rfl,h1,h2,h3,h4,h5,h6⟩:=h
 obtain⟨g,m,p⟩:=w
 go_enter Tryz.func26,Tryz.ntmps26
 refine JB<|qQ [] (Many.begin W) fun w1 k1=>coR<|qR 2 [0] k1 fun w2 k2=>qC (QOP A m.length c h3 w2) k2 fun w3 k3=>qE [0] k3 fun w4 k4=>qQ [0] k4 fun w5 k5=>JJ<|J8 (pT w4.heap.size 0) ⟨_,.slice A m.length m.length,.slice A' p.length c',rfl,⟨k5.row 1 (XU g (.slice A m.length m.length) (.slice A' p.length c') 0 0).toList (by kernel_rfl),k4.touch.size,.inl ⟨rfl,A,rfl,h1.below k5.touch.below,fun e=>?_⟩,fun e=>(by cases e),A',c',rfl,h6,h4.below k5.touch.below,h5⟩,k5.touch.below⟩
 exact List.eq_nil_of_length_eq_zero (by have:=h2 e;have h3:m.length≤c:=h3;omega)
section
variable {W:World} {B J:Nat} {g:Rg} {M P:Value} {ob:Option Nat} {m:List (Int×Int)} {p:List Int} {k n:Int}
theorem QFi (h:Jny B J W g M P ob m p k n)(hl:m.length≤900000)(h16:QL m)(hp:p.length≤1000000):Calls Tryz.prog 28 #[pT J 0] W fun e W'=>∃ V,e=.returned V∧InO W' W.heap.size V ⟨g,mkS m,p⟩∧Below W.heap.size W W':=by
 go_enter Tryz.func28,Tryz.ntmps28
 have hJ:=h.row.lt
 obtain⟨A,c,rfl,hin⟩:=h.mem.slice h.lt
 obtain⟨Ap,cp,rfl,hcp,hip,hnp⟩:=h.por
 refine JB<|qQ [] (Many.begin W) fun w1 k1=>?_
 have hb1:=k1.touch.below
 have rR:Row w1 W.heap.size 28 (JQ JV (.slice none 0 0) (.slice none 0 0)):=k1.row 0 (JQ JV (.slice none 0 0) (.slice none 0 0)).toList (by kernel_rfl)
 have k2:=Many.two (h.row.below hb1 hJ) rR (by omega)
 refine coP (S:=Many w1 [J,W.heap.size] _) 18 k2.drew ?_
 have hb2:Below w1.heap.size w1 w1.drew:=(Below.refl _ _).drew
 obtain⟨w2,hw2⟩:∃ w2,w2=w1.drew:=⟨_,rfl⟩
 have k2:=k2.drew
 rw[←hw2] at hb2 k2 ⊢
 have hB2:Below W.heap.size W w2:=hb1.trans (hb2.mono hb1.size)
 refine qD 0 [0,1,2,3,4,5,6,7,8,9,11,12,13,14,15] k2<|ZZ 10 (soC (QMx A c m (by omega) h16 w2 ((hin.below hB2).more hB2.size)) fun e w3 ⟨A3,c3,he,hc3,hcc3,hn3,hb3,hq3⟩=>⟨_,he,k2.below hb3,?_⟩)
 have hB3:Below W.heap.size W w3:=hB2.trans (hb3.mono hB2.size)
 have k3:=k2.below hb3
 refine ZZ 16 (soC (QLP Ap cp p (((hip.more h.lt).below hB3).more hB3.size) hnp hcp hp) fun e w4 ⟨v4,he4,own4,hb4⟩=>⟨_,he4,k3.below hb4,?_⟩)
 obtain⟨A4,c4,rfl,-,-,-⟩:=QBm own4
 refine qD 0 [17] (k3.below hb4)<|poE<|qE [0] (Many.start ((rR.below hb2 rR.lt) |>.below hb3 (Nat.lt_of_lt_of_le rR.lt hb2.size) |>.below hb4 (Nat.lt_of_lt_of_le rR.lt (Nat.le_trans hb2.size hb3.size)))) fun w5 k5=>JJ ?_
 have hB4:Below W.heap.size W w4:=hB3.trans (hb4.mono hB3.size)
 have r5:Row w5 W.heap.size 28 (JQ g (.slice A3 (mkS m).length c3) (.slice A4 p.length c4)):=k5.row 0 (JQ g (.slice A3 (mkS m).length c3) (.slice A4 p.length c4)).toList (by kernel_rfl)
 have q5:Kept (fun b=>b=W.heap.size) w4 w5:=(Kept.of_touch k5.touch).mono fun b _ e=>List.mem_singleton.1 e
 have hs5:=q5.size
 have hR2:W.heap.size < w2.heap.size:=Nat.lt_of_lt_of_le rR.lt hb2.size
 have own5:=q5.own own4 fun b e x=>by have:=(own4.lt b e).1;have x:b=W.heap.size:=x;have:=hb3.size;omega
 obtain⟨A5,c5,e5,hc5,hb5,hn5⟩:=QBm own5
 injection e5 with e5 e6 e7
 subst e5 e7
 have hq4:=(hc3.below hb4).off hq3 (w':=w5) fun b h1 h2=>q5.block b (Nat.lt_of_lt_of_le h2 hb4.size) (by omega)
 exact eoK1 r5 ⟨_,rfl,⟨A3,c3,A4,c4,rfl,hq4.more (Nat.le_trans hb4.size hs5),hn3,hcc3,hb5,hn5,hc5,fun q e=>by have:=hq3 q e;omega,fun q e=>by
  have:=(own5.lt q.block (by rw[e];rfl)).1
  have:=hb3.size
  omega⟩,q5.low hB4 hB4.size fun b e=>by have e:b=W.heap.size:=e;omega⟩
end
theorem Many.wide {w0 w:World} {L L':List Nat} {rs:List RowK}(h:Many w0 L rs w)(hs:∀ x∈L,x∈L'):Many w0 L' rs w :=
 ⟨h.rows,h.dis,fun i r hr=>(h.own i r hr).imp (hs _) id,h.touch.os,h.touch.tape,h.touch.output,h.touch.size,fun b hb n=>h.touch.block b hb fun e=>n (hs b e)⟩
theorem Many.beside {w0 w:World} {L:List Nat} {rs:List RowK}(h:Many w0 L rs w){b:Nat}(hb:b∈L)(hn:∀ r∈rs,r.b≠b)(o:Nat)(vs:List Value):Many w0 L rs (w.setCells b o vs):=by
 have k:=QFX b vs o (Besides.refl b b w)
 refine⟨fun i r hr=>?_,h.dis,h.own,h.touch.trans ⟨k.os,k.tape,k.output,k.size,fun x hx n=>k.block x hx (fun e=>n (e▸hb)) fun e=>n (e▸hb)⟩⟩
 obtain⟨full,h1,h2⟩:=h.rows i r hr
 exact⟨full,Row.setFar (hn r (List.mem_of_getElem? hr)) vs o h1,h2⟩
theorem soW {P:Program} {ops:Array Oper} {Q:Exit→Act→World→Prop} {base:List Value} {l:Jy} {w:World} {S:World→Prop} {n f i:Nat} {listed:Array Bool} {x y:Operand} {b:Nat} {t u:TypeId} {cs ds:Array Value}(hr:Row w b u ds)(hS:S (w.setCells b 0 cs.toList))(h:PO P ops Q S n base f (listed.setIfInBounds i true) l (w.setCells b 0 cs.toList))
 (h1:cs.toList.all (·.oneCell')=true)(hsz:ds.size=cs.size)(ho:(jV ops i).op=.store t x y:=by exact rfl)(hx:evO base l x=pT b 0:=by kernel_rfl)(hy:evO base l y=.agg cs:=by kernel_rfl)(ht:(P.info? t).map (·.size)=some cs.size:=by kernel_rfl)
 (hd:((jV ops i).dst.isNone,decide (i < n),QC ops base.length base l (jV ops i),(ops[i]?).isSome)=(true,true,some true,true):=by kernel_rfl):SO P ops Q S n base f listed i l w:=by
 simp only[Prod.mk.injEq] at hd
 obtain⟨d1,d2,d3,d4⟩:=hd
 have ho':=QCW d4
 have hdn:(jV ops i).dst=none:=Option.isNone_iff_eq_none.1 d1
 have e1:(execOp (evO base l) (jV ops i)).run P w=.ok .skip (w.setCells b 0 cs.toList):=QPd (run_storeAt_mid w b 0 t cs (hsz▸hr.there) ht (by rw[←Array.all_toList];exact h1)) ho hx hy
 refine⟨fun hi hr inv=>⟨of_decide_eq_true d2,?_⟩⟩
 unfold wpOp
 simp only[ho',J5 d3 hi,if_true]
 refine .inl ?_
 unfold Oper.wp
 rw[J9 hi,e1,Oper.upon_skip,hdn]
 exact⟨hS,h.h hi (inv.set hr (of_decide_eq_true d2))⟩
def mkW (w:Wd):Wd:=⟨w.g,mkS w.m,w.p⟩
theorem Tabs.belowK {w w':World} {B:Nat}(h:Tabs w B)(k:Below B w w'):Tabs w' B:=h.keep fun b hb=>k.block b hb
theorem QHN (hA:jK){V:Value} {w:Wd}(which v:Int)(W:World)(hw:OkW w)(hv:B8 v)(hl:w.m.length≤800000)(hp:w.p.length≤1000000)(h:InW W W.heap.size V w)(ht:Tabs W W.heap.size) :
 Calls Tryz.prog 9 #[V,.int .i64 which,.int .u8 v] W fun e W'=>∃ V' A c,e=.returned (.tuple #[V',.slice A (Jj w which v).l.length c,.int .i64 (Jj w which v).n])∧InW W' W'.heap.size V' (mkW (Jk w which v))∧CysIn W' W'.heap.size A (Jj w which v).l∧(A=none→c=0)∧(Jj w which v).l.length≤c∧Below W.heap.size W W':=by
 have h0:=h
 obtain⟨A,c,A',c',rfl,-⟩:=h0
 obtain⟨g,m,p⟩:=w
 go_enter Tryz.func9,Tryz.ntmps9
 refine JB<|qQ [] (Many.begin W) fun w1 k1=>coR<|qR 1 [0] k1 fun w2 k2=>kX (QCL w2 (h.on k2.touch.below)) fun e w3 ⟨J,M,P,he,hj,hb3⟩=>⟨_,he,qE [] (Many.begin w3) fun w4 k4=>coR<|qR 3 [] k4 fun w5 k5=>?_⟩
 have hb1:=k1.touch.below
 have hb2:=k2.touch.below
 have hb5:=k5.touch.below
 have h25:Below w2.heap.size w2 w5:=hb3.trans (hb5.mono hb3.size)
 have hW5:Below W.heap.size W w5:=hb2.trans (h25.mono hb2.size)
 have r6:Row w2 (W.heap.size+1) 28 (JQ JV (.slice none 0 0) (.slice none 0 0)):=k2.row 1 (JQ JV (.slice none 0 0) (.slice none 0 0)).toList (by kernel_rfl)
 have hj5:=hj.bel hb5
 have t5:Tabs w5 w2.heap.size:=(Tabs.below ht hb2).belowK h25
 have hX:=zI ⟨g,m,p⟩ which v
 have hw':=hw.pstepW hA which hv
 have hn:=QEe ⟨g,m,p⟩ which v
 refine kX (QCc hA hw.g which hv hj5 t5 (by omega) (by omega) hl hw.m hw.p) fun e w6 ⟨A6,c6,he6,hcy,hnn,hle,hqy,M',P',ob',hj6,q6,n6⟩=>⟨_,he6,qE [] (Many.begin w6) fun w7 k7=>?_⟩
 rw[Int.zero_add,Int.zero_add] at hj6
 have hb7:=k7.touch.below
 have hj7:=hj6.bel hb7
 have r5:=r6.below h25 r6.lt
 have hlow:=hj5.low
 have l6:=r6.lt
 have q67:Kept (fun b=>b=J) w5 w7:=(q6.trans (Kept.of_below (S:=fun _=>False) hb7) (fun b e=>e) fun _ _ e=>e.elim).mono fun b _ e=>by
  rcases e with e|e
  · exact e
  · cases e
 have r7:Row w7 (W.heap.size+1) 28 (JQ JV (.slice none 0 0) (.slice none 0 0)):=q67.row r5 fun e=>by have e:W.heap.size+1=J:=e;omega
 have k7:Many w7 [J,W.heap.size+1] [⟨J,63,(XU (qn g which (Jj ⟨g,m,p⟩ which v)) M' P' 1 (Jj ⟨g,m,p⟩ which v).n).toList.map some⟩] w7:=(Many.start hj7.row).wide fun x hx=>by simp at hx;simp[hx]
 refine coP (S:=Many w7 [J,W.heap.size+1] [⟨J,63,(XU (qn g which (Jj ⟨g,m,p⟩ which v)) M' P' 1 (Jj ⟨g,m,p⟩ which v).n).toList.map some⟩]) 9 k7.drew ?_
 have hb8:Below w7.heap.size w7 w7.drew:=(Below.refl _ _).drew
 obtain⟨w8,hw8⟩:∃ w8,w8=w7.drew:=⟨_,rfl⟩
 have k8:=k7.drew
 rw[←hw8] at hb8 k8 ⊢
 have hj8:=hj7.bel hb8
 have l8:=r7.lt
 have s8:=hb8.size
 refine qD 0 [0,2,3,4,5,6] k8<|ZZ 1 (soC (QFi hj8 (Nat.le_trans hX (Nat.le_trans (Nat.add_le_add_right hl 200) (by decide))) hw'.m (Nat.le_trans (QAs ⟨g,m,p⟩ which v) hp)) fun e w9 ⟨V9,he9,hO,hb9⟩=>⟨_,he9,k8.below hb9,?_⟩)
 have hO0:=hO
 obtain⟨A9,c9,Ap9,cp9,rfl,-⟩:=hO0
 have r9:=(r7.below hb8 r7.lt).below hb9 (by omega)
 have k9:=(k8.below hb9).beside (b:=W.heap.size+1) (by simp) (fun r hr=>by simp at hr;subst hr;show J≠_;omega) 0 (JQ (qn g which (Jj ⟨g,m,p⟩ which v)) (.slice A9 (mkS (Jj ⟨g,m,p⟩ which v).m).length c9) (.slice Ap9 (Jj ⟨g,m,p⟩ which v).p.length cp9)).toList
 refine ZZ 7 (soW (cs:=JQ (qn g which (Jj ⟨g,m,p⟩ which v)) (.slice A9 (mkS (Jj ⟨g,m,p⟩ which v).m).length c9) (.slice Ap9 (Jj ⟨g,m,p⟩ which v).p.length cp9)) r9 k9 ?_ (by rfl) rfl)
 obtain⟨wA,hwA⟩:∃ wA,wA=w9.setCells (W.heap.size+1) 0 (JQ (qn g which (Jj ⟨g,m,p⟩ which v)) (.slice A9 (mkS (Jj ⟨g,m,p⟩ which v).m).length c9) (.slice Ap9 (Jj ⟨g,m,p⟩ which v).p.length cp9)).toList:=⟨_,rfl⟩
 have rA:=r9.setAll (vs:=JQ (qn g which (Jj ⟨g,m,p⟩ which v)) (.slice A9 (mkS (Jj ⟨g,m,p⟩ which v).m).length c9) (.slice Ap9 (Jj ⟨g,m,p⟩ which v).p.length cp9)) rfl
 have bA:=QFX (W.heap.size+1) (JQ (qn g which (Jj ⟨g,m,p⟩ which v)) (.slice A9 (mkS (Jj ⟨g,m,p⟩ which v).m).length c9) (.slice Ap9 (Jj ⟨g,m,p⟩ which v).p.length cp9)).toList 0 (Besides.refl (W.heap.size+1) (W.heap.size+1) w9)
 rw[←hwA] at rA bA k9 ⊢
 have qA0:Kept (fun b=>b=W.heap.size+1) w9 wA:=⟨bA.os,bA.tape,bA.output,bA.size,fun b hb n=>bA.block b hb n n⟩
 refine qD 0 [8] k9<|poE<|qE [] (Many.begin wA) fun wB kB=>JJ ?_
 have hbB:=kB.touch.below
 have rB:=rA.below hbB rA.lt
 have qA:Kept (fun b=>b=W.heap.size+1) w9 wB:=qA0.trans (Kept.of_below (S:=fun _=>False) hbB) (fun _ e=>e) fun _ _ e=>e.elim
 refine QUR rB ⟨_,A6,c6,rfl,hO.kept qA (fun b e=>by have e:b=W.heap.size+1:=e;omega),?_,hnn,hle,?_⟩
 · have h79:Below w7.heap.size w7 w9:=hb8.trans (hb9.mono s8)
   have h69:Below w6.heap.size w6 w9:=hb7.trans (h79.mono hb7.size)
   exact ((hcy.below h69).off hqy (w':=wB) fun b h1 h2=>qA.block b (Nat.lt_of_lt_of_le h2 h69.size) (by show ¬b=W.heap.size+1;have:=h25.size;omega)).more (Nat.le_trans h69.size qA.size)
 · have h79:Below w7.heap.size w7 w9:=hb8.trans (hb9.mono s8)
   have q59:Kept (fun b=>b=J) w5 w9:=q67.trans (Kept.of_below (S:=fun _=>False) h79) (fun _ e=>e) fun _ _ e=>e.elim
   have b9:Below W.heap.size W w9:=q59.low hW5 hW5.size fun b e=>by have e:b=J:=e;omega
   exact qA.low b9 b9.size fun b e=>by have e:b=W.heap.size+1:=e;omega
end Go.Proofs.YtkgaeamdhhceiaaGreatDoor
