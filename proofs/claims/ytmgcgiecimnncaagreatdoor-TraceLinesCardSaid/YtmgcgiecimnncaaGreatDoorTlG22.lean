/- Contracts and facts that the claim's proof wants (several texts in one). -/
import Derived.Shelf.SlSortCmp.NoneTotal
import Derived.Laws.IdiomStrings
import Derived.Laws.MakeOwn
import Derived.Test.YtmgcgiecimnncaaGreatDoorTlG21
namespace Go.Proofs.YtmgcgiecimnncaaGreatDoor
open Go.RowKit
set_option linter.unusedVariables false
set_option linter.unusedSimpArgs false
set_option maxRecDepth 20000
set_option maxHeartbeats 20000000
section
section
open Go.Shelf
def Sh.sortC_ren:Go.Shelf.Ren:=⟨fun|6=>143|15=>158|14=>157|28=>177|29=>110|20=>169|21=>170|22=>171|23=>172|24=>173|25=>174|26=>175|27=>176|46=>196|47=>197|48=>198|49=>199|50=>200|57=>246|n=>n,fun|22=>25|24=>55|25=>177|3=>3|39=>85|0=>0|53=>126|55=>60|4=>4|46=>200|45=>199|50=>204|5=>5|9=>9|66=>207|70=>211|76=>227|77=>228|n=>n,fun|n=>n⟩
theorem Sh.sortC:Go.Proofs.SlLaysF0.n6 Tryz.prog Sh.sortC_ren:={
 mixed:=by kernel_rfl
 f6:=⟨Tryz.f143.name,by kernel_rfl,Tryz.func143.trans (congrArg some (by kernel_rfl))⟩
 f14:=⟨Tryz.f157.name,by kernel_rfl,Tryz.func157.trans (congrArg some (by kernel_rfl))⟩
 f15:=Tryz.func158.trans (congrArg some (by kernel_rfl))
 f20:=⟨Tryz.f169.name,by kernel_rfl,Tryz.func169.trans (congrArg some (by kernel_rfl))⟩
 f21:=⟨Tryz.f170.name,by kernel_rfl,Tryz.func170.trans (congrArg some (by kernel_rfl))⟩
 f22:=⟨Tryz.f171.name,by kernel_rfl,Tryz.func171.trans (congrArg some (by kernel_rfl))⟩
 f23:=⟨Tryz.f172.name,by kernel_rfl,Tryz.func172.trans (congrArg some (by kernel_rfl))⟩
 f24:=⟨Tryz.f173.name,by kernel_rfl,Tryz.func173.trans (congrArg some (by kernel_rfl))⟩
 f25:=⟨Tryz.f174.name,by kernel_rfl,Tryz.func174.trans (congrArg some (by kernel_rfl))⟩
 f26:=⟨Tryz.f175.name,by kernel_rfl,Tryz.func175.trans (congrArg some (by kernel_rfl))⟩
 f27:=⟨Tryz.f176.name,by kernel_rfl,Tryz.func176.trans (congrArg some (by kernel_rfl))⟩
 f28:=Tryz.func177.trans (congrArg some (by kernel_rfl))
 f29:=Tryz.func110.trans (congrArg some (by kernel_rfl))
 f46:=⟨Tryz.f196.name,by kernel_rfl,Tryz.func196.trans (congrArg some (by kernel_rfl))⟩
 f47:=Tryz.func197.trans (congrArg some (by kernel_rfl))
 f48:=Tryz.func198.trans (congrArg some (by kernel_rfl))
 f49:=⟨Tryz.f199.name,by kernel_rfl,Tryz.func199.trans (congrArg some (by kernel_rfl))⟩
 f50:=⟨Tryz.f200.name,by kernel_rfl,Tryz.func200.trans (congrArg some (by kernel_rfl))⟩
 f57:=⟨Tryz.f246.name,by kernel_rfl,Tryz.func246.trans (congrArg some (by kernel_rfl))⟩
 t0:=Tryz.underlying0
 a0:=Tryz.isAgg0
 z0:=Tryz.sizeOf0
 v0:=Tryz.zeroValue0
 t3:=Tryz.underlying3
 a3:=Tryz.isAgg3
 z3:=Tryz.sizeOf3
 v3:=Tryz.zeroValue3
 t4:=Tryz.underlying4
 a4:=Tryz.isAgg4
 z4:=Tryz.sizeOf4
 v4:=Tryz.zeroValue4
 t5:=Tryz.underlying5
 a5:=Tryz.isAgg5
 z5:=Tryz.sizeOf5
 v5:=Tryz.zeroValue5
 t9:=Tryz.underlying9
 a9:=Tryz.isAgg9
 z9:=Tryz.sizeOf9
 v9:=Tryz.zeroValue9
 t22:=Tryz.underlying25
 a22:=Tryz.isAgg25
 z22:=Tryz.sizeOf25
 v22:=Tryz.zeroValue25
 t25:=Tryz.underlying177
 a25:=Tryz.isAgg177
 z25:=Tryz.sizeOf177
 v25:=Tryz.zeroValue177
 t39:=Tryz.underlying85
 a39:=Tryz.isAgg85
 z39:=Tryz.sizeOf85
 v39:=Tryz.zeroValue85
 t45:=Tryz.underlying199
 a45:=Tryz.isAgg199
 z45:=Tryz.sizeOf199
 v45:=Tryz.zeroValue199
 t46:=Tryz.underlying200
 a46:=Tryz.isAgg200
 z46:=Tryz.sizeOf200
 v46:=Tryz.zeroValue200
 t50:=Tryz.underlying204
 a50:=Tryz.isAgg204
 z50:=Tryz.sizeOf204
 v50:=Tryz.zeroValue204
 t53:=Tryz.underlying126
 a53:=Tryz.isAgg126
 z53:=Tryz.sizeOf126
 v53:=Tryz.zeroValue126
 t55:=Tryz.underlying60
 a55:=Tryz.isAgg60
 z55:=Tryz.sizeOf60
 v55:=Tryz.zeroValue60
 t66:=Tryz.underlying207
 a66:=Tryz.isAgg207
 z66:=Tryz.sizeOf207
 v66:=Tryz.zeroValue207
 t70:=Tryz.underlying211
 a70:=Tryz.isAgg211
 z70:=Tryz.sizeOf211
 v70:=Tryz.zeroValue211
 t76:=Tryz.underlying227
 a76:=Tryz.isAgg227
 z76:=Tryz.sizeOf227
 v76:=Tryz.zeroValue227
 t77:=Tryz.underlying228
 a77:=Tryz.isAgg228
 z77:=Tryz.sizeOf228
 v77:=Tryz.zeroValue228 }
end
open Go.Shelf Go.Lib Go.Sort
theorem QNy (x:Int)(w:World):Calls Tryz.prog 159 #[.int .u16 x] w fun e w'=>e=.returned (.bool false)∧w'=w:=by
 go_enter Tryz.func159,Tryz.ntmps159
 go_wp2
 go_ret
 exact⟨rfl,rfl⟩
theorem QI1 (x y:Int)(w:World):Calls Tryz.prog 145 #[.int .u16 x,.int .u16 y] w fun e w'=>e=.returned (.int .i64 (Lib.compareInt x y))∧w'=w:=by
 go_enter Tryz.func145,Tryz.ntmps145
 go_wp2_with (go_at_call 159;refine (QNy _ _).mono ?_;rintro e w' ⟨rfl,rfl⟩)
 all_goals go_ret
 all_goals refine⟨?_,rfl⟩
 all_goals unfold Lib.compareInt
 all_goals first
  | (simp_all;done)
  | (rw[if_neg (show ¬x < y by omega),if_neg (show ¬x > y by omega)];first|rfl|simp)
def QFW (c:Int×Int):List Value:=[.int .u16 c.1,.int .u8 c.2]
theorem QH2 (x y:Int×Int)(W:World):Calls Tryz.prog 144 #[.agg #[.int .u16 x.1,.int .u8 x.2],.agg #[.int .u16 y.1,.int .u8 y.2]] W fun e w'=>e=.returned (.int .i64 (Lib.compareInt x.1 y.1))∧∃ q os',w'=grow (W.drewN q) os':=by
 have hcon:=fun W'=>QI1 x.1 y.1 W'
 generalize Lib.compareInt x.1 y.1=r at hcon ⊢
 go_enter Tryz.func144,Tryz.ntmps144
 go_wp2_with (go_at_call 145;refine (hcon _).mono ?_;rintro e w' ⟨rfl,rfl⟩)
 go_ret
 exact⟨rfl,0,_,by rw[alloc_eq_grow,alloc_eq_grow,grow_grow];rfl⟩
theorem QIs (blk off size:Nat)(w:World):CmpLays Tryz.prog 144 #[] QFW 2 (fun x y=>Lib.compareInt x.1 y.1) blk off size w :=
 fun _ _ _ _ x y=>QH2 x y _
theorem QSF (x y:Int×Int):ltOf (fun x y:Int×Int=>Lib.compareInt x.1 y.1) x y=decide (x.1 < y.1):=by
 unfold ltOf Lib.compareInt
 by_cases h1:x.1 < y.1
 · simp[h1]
 · by_cases h2:y.1 < x.1<;>simp[h1,h2]
theorem QWj:SWO (ltOf fun x y:Int×Int=>Lib.compareInt x.1 y.1) where
 irrefl x:=by rw[QSF];simp
 trans x y z h1 h2:=by rw[QSF] at *;simp at *;omega
 ntrans x y z h1 h2:=by rw[QSF] at *;simp at *;omega
theorem QPp (l:List (Int×Int))(j:Nat)(hj:j < l.length*2):(cvs l)[j]? = some (QFW l.toArray[j / 2]!)[j%2]!:=by
 have h2:j / 2 < l.length:=by omega
 have e:l.toArray[j / 2]! = l[j / 2]:=by simp[h2]
 rw[e]
 have hd:j=j / 2*2∨j=j / 2*2+1:=by omega
 rcases hd with h|h
 · have hm:j%2=0:=by omega
   rw[hm]
   conv=>lhs;rw[h]
   rw[QCF,List.getElem?_eq_getElem h2]
   rfl
 · have hm:j%2=1:=by omega
   rw[hm]
   conv=>lhs;rw[h]
   rw[QDy,List.getElem?_eq_getElem h2]
   rfl
theorem QML {W:World} {b g cap:Nat} {l:List (Int×Int)}(h:W.ownsRow b 55 2 (.slice (some ⟨g,0,none⟩) l.length cap) l.length (cvs l)):HoldsK QFW 2 W g 0 l.toArray:=fun j hj=>by
 rw[size_flatK] at hj
 rw[get_flatK _ _ _ _ hj]
 have hj':j < l.length*2:=by simpa using hj
 rw[Nat.zero_add]
 exact⟨(h.cellAt j hj').trans (QPp l j hj'),h.frozenAt j⟩
theorem QJe {W:World} {g:Nat} {l:List (Int×Int)}(h:HoldsK QFW 2 W g 0 l.toArray)(hb:g < W.heap.size):CellsIn W W.heap.size (some ⟨g,0,none⟩) l :=
 CellsIn.of_values hb fun j u hu=>by
  have hj:j < l.length*2:=by
   have:=(List.getElem?_eq_some_iff.1 hu).1
   rwa [jW] at this
  have h1:=(h j (by rw[size_flatK];simpa using hj)).1
  rw[get_flatK _ _ _ _ (by simpa using hj)] at h1
  rw[QPp l j hj] at hu
  have e:(⟨g,0,none⟩:Addr).add j=⟨g,0+j,none⟩:=by
   unfold Addr.add
   split
   · rename_i h0;rw[h0]
   · simp
  rw[e]
  exact h1.trans (by simpa using hu)
theorem QGw (W:World)(blk n:Nat)(d:Array (Int×Int))(os:Array Obj):W.grownBy (sortWorldK QFW 2 W blk 0 n d os) (some blk):=by
 refine⟨rfl,rfl,rfl,?_,fun i hi hne=>?_⟩
 · unfold sortWorldK putRowK
   rw[size_grow,size_putRow]
   exact Nat.le_add_right _ _
 · unfold sortWorldK
   rw[heap_grow_old _ _ (by unfold putRowK;rw[size_putRow];exact hi)]
   unfold putRowK putRow mapBlock
   show (W.heap.modify blk _)[i]? = _
   rw[Array.getElem?_modify,if_neg (by intro e;exact hne (by rw[e]))]
theorem QNb (blk cap:Nat)(l:List (Int×Int))(hl:l.length≤1000000000)(w:World)(hH:HoldsK QFW 2 w blk 0 l.toArray)(hblk:blk < w.heap.size) :
 Calls Tryz.prog 143 #[.slice (some ⟨blk,0,none⟩) l.length cap,.func (.func 144) #[] #[]] w fun e w'=>e=.returned (.tuple #[])∧∃ d:List (Int×Int),d.Perm l∧d.Pairwise (fun x y=>x.1≤y.1)∧CellsIn w' w'.heap.size (some ⟨blk,0,none⟩) d∧w.grownBy w' (some blk):=by
 have eg:∀ args w,(callFunc 144 args).run Tryz.prog w=.ok (.enter 144 args) w:=enters_of Tryz.func144 (by kernel_rfl) rfl
 have hcon:=AnyQ.slices_SortFunc Sh.sortC 2 Tryz.isAgg55 Tryz.sizeOf55 QFW (fun _=>rfl) (fun x v hv=>by simp[QFW] at hv;rcases hv with rfl|rfl<;>rfl) (fun x y=>Lib.compareInt x.1 y.1) QWj 144 #[] blk 0 cap l.toArray w eg (QIs blk 0 l.toArray.size w) hH hblk (by simp;omega)
 change Calls Tryz.prog 143 _ _ _ at hcon
 have e0:l.toArray.size=l.length:=by simp
 rw[e0] at hcon
 refine hcon.mono ?_
 rintro e w' ⟨rfl,d',n,os,⟨p1,p2,p3⟩,hs,rfl⟩
 have hsz:d'.size=l.length:=by rw[p1,e0]
 have hH':=holdsK_sortWorldK_c QFW 2 w blk 0 l.toArray d' n os hH hblk p1
 refine⟨rfl,d'.toList,?_,?_,?_,QGw w blk n d' os⟩
 · have e1:d'.extract 0 l.length=d':=by rw[←hsz];simp
   have e2:l.toArray.extract 0 l.length=l.toArray:=by rw[←e0];simp
   rw[e1,e2] at p3
   simpa using p3
 · rw[List.pairwise_iff_getElem]
   intro i j hi hj hij
   have hi':i < d'.size:=by simpa using hi
   have hj':j < d'.size:=by simpa using hj
   have:=hs i j (Nat.zero_le _) hij (by omega)
   rw[QSF,getElem!_pos d' j hj',getElem!_pos d' i hi'] at this
   simp at this
   simpa using this
 · refine QJe (l:=d'.toList) (by simpa using hH') ?_
   exact Nat.lt_of_lt_of_le hblk (size_sortWorldK_c QFW 2 w blk 0 n d' os)
end
theorem QWq (A:Option Addr)(n c:Nat)(h:n≤c)(w:World):(Instr.sliceAt 25 (.slice A n c) none (some (.int .i64 (n:Int))) (some (.int .i64 (n:Int)))).run Tryz.prog w=.ok (.slice A n n) w:=by
 have h1:¬((n:Int) < 0):=by omega
 have h2:¬(c < n):=by omega
 simp[go_sem,h1,h2]
theorem QNX {base n:Nat} {v:Value} {l:List (Int×Int)}(hl:l.length≤1000000000)(w:World)(hown:w.ownsRow base 55 2 v l.length (cvs l)) :
 Calls Tryz.prog 143 #[v,.func (.func 144) #[] #[]] w fun e w'=>e=.returned (.tuple #[])∧∃ (A:Option Addr) (c:Nat) (d:List (Int×Int)),v=.slice A l.length c∧d.Perm l∧d.Pairwise (fun x y=>x.1≤y.1)∧CellsIn w' w'.heap.size A d∧l.length≤c∧(A=none→l.length=0)∧w.grownBy w' v.ownBlock:=by
 by_cases h0:l=[]
 · subst h0
   obtain⟨A,c,rfl,hc,hci,hn⟩:=jV hown
   refine (AnyF.slices_SortFunc_none (P:=Tryz.prog) (ρ:=Sh.sortC_ren) { Sh.sortC with } A c _ w).mono ?_
   rintro e w' ⟨rfl,rfl⟩
   exact⟨rfl,A,c,[],rfl,.refl _,.nil,CellsIn.nil _ _ _,hc,fun _=>rfl,⟨rfl,rfl,rfl,Nat.le_refl _,fun _ _ _=>rfl⟩⟩
 · have hpos:0 < l.length:=by cases l with
                               | nil=>exact absurd rfl h0
                               | cons c r=>simp
   rcases hown.2 with ⟨-,e2⟩|⟨g,cap,cur,e1,-,hh,hle,-⟩
   · omega
   · subst e1
     refine (QNb g cap l hl w (QML hown) (Array.getElem?_eq_some_iff.1 hh).1).mono ?_
     rintro e w' ⟨rfl,d,hp,hs,hci,hg⟩
     exact⟨rfl,_,cap,d,rfl,hp,hs,hci,hle,(fun e=>by cases e),hg⟩
structure QT2 where
 ss:List (Int×Int)
 v:Value
 left:Int→Bool
 cnt:Nat
 y:Nat→Value
def QVU (b r:Nat)(x:QT2):List Value:=[.map (some b),x.y 1,x.y 2,x.v,x.y 4,x.y 5,x.y 6,.pointer (some ⟨r,0,none⟩),x.y 8,x.y 9,x.y 10,x.y 11,x.y 12,x.y 13,x.y 14,x.y 15,x.y 16,x.y 17,x.y 18,x.y 19,x.y 20,x.y 21,x.y 22,x.y 23,x.y 24,x.y 25,x.y 26]
def QUk (w:World)(b r n:Nat)(m:List (Int×Int))(x:QT2)(W:World):Prop:=Below w.heap.size w W∧W.ownsRow (r+1) 55 2 x.v x.ss.length (cvs x.ss)∧RangeAt W b r n m x.left x.cnt∧(∀ p,p∈x.ss↔p∈m∧x.left p.1=false)∧x.ss.Pairwise (fun p q=>p.1≠q.1)∧x.ss.length+x.cnt≤m.length
def QQy (w:World)(m:List (Int×Int))(e:Ending)(w':World):Prop:=∃ A' c,e=.returned (.slice A' m.length c)∧CellsIn w' w'.heap.size A' m∧m.length≤c∧(A'=none→c=0)∧Below w.heap.size w w'∧∀ q,A'=some q→w.heap.size≤q.block
theorem QNV (b n:Nat)(m:List (Int×Int))(hs:Srt m)(hl:m.length≤100000000)(w:World)(hM:MapAt w b n m) :
 Calls Tryz.prog 129 #[.map (some b)] w (QQy w m):=by
 go_enter Tryz.func129,Tryz.ntmps129
 refine JA<|qQ [] (Many.begin w) fun w1 k1=>qQ [] k1 fun w2 k2=>coS<|coR<|qR 1 [] k2 fun w3 k3=>?_
 have hM3:=hM.below k3.touch.below
 obtain⟨w4,r1,r2,r3⟩:=hM3.range
 obtain⟨r,hr⟩:∃ r,r=w3.heap.size:=⟨_,rfl⟩
 have hB4:Below w.heap.size w w4:=k3.touch.below.trans (r3.mono k3.touch.size)
 have hbr:b < r:=by rw[hr];exact hM3.lt
 have hwr:w.heap.size≤r:=by rw[hr];exact k3.touch.size
 rw[←hr] at r2
 refine wM (QUz r1)<|qE [] (Many.begin w4) fun w5 k5=>coB<|jA (QVU b r) (QUk w b r n m) (fun x=>x.cnt) (fun y=>⟨[],.slice none 0 0,fun x=>m.any fun p=>decide (p.1=x),m.length,y⟩) ⟨bOn hB4 k5,World.ownsRow_nil ..,r2.below k5.touch.below,?_,List.Pairwise.nil,by show 0+m.length≤m.length;omega⟩ ?_ (by rw[hr];kernel_rfl)
 · intro p
   constructor
   · intro h;cases h
   · rintro ⟨h1,h2⟩
     rw[List.any_eq_false] at h2
     exact absurd (decide_eq_true rfl) (h2 p h1)
 clear r1 r2 r3 hB4 hM3 k5 k3 hr
 rintro ⟨ss,v,left,cnt,y⟩ W ⟨hB,hown,hR,hmem,hpw,hlen⟩
 have hown:W.ownsRow (r+1) 55 2 v ss.length (cvs ss):=hown
 have hR:RangeAt W b r n m left cnt:=hR
 have hmem:∀ p,p∈ss↔p∈m∧left p.1=false:=hmem
 have hpw:ss.Pairwise (fun p q=>p.1≠q.1):=hpw
 have hlen:ss.length+cnt≤m.length:=hlen
 rcases hR.next 0 with ⟨hl0,hrun⟩|⟨x,c,w6,cnt',hx,hc,hlx,hxm,hrun,hR6,hlt,hg6,hen⟩
 · refine coR<|wM (QUZ hrun)<|qE [] (Many.begin W) fun wa ka=>coS<|coF<|coX<|jv<|jv<|QE9<|eoT<|coR<|qR 1 [] ka fun wb kb=>?_
   have hownb:=own_below hown kb.touch.below
   refine kO (QNX (n:=0) (by omega) wb hownb) ?_
   rintro wc ⟨A,cp,d,rfl,hp,hsd,hci,hcp,hA,hg⟩
   have hBc:Below w.heap.size w wc:=qo (bOn hB kb) hg hownb (by omega) (bOn hB kb).size
   have hds:Srt d:=by
    have h1:d.Pairwise (fun p q=>p.1≠q.1):=(hp.pairwise_iff (fun {a b} (h:a.1≠b.1)=>h.symm)).2 hpw
    have h2:=hsd.and h1
    exact h2.imp fun {a b} ⟨h3,h4⟩=>by omega
   have hdm:d=m:=QCV hds hs fun p=>by
    rw[hp.mem_iff,hmem]
    exact⟨fun h=>h.1,fun h=>⟨h,hl0 _⟩⟩
   have hln:ss.length=m.length:=by rw[←hdm,hp.length_eq]
   subst hdm
   refine qE [] (Many.begin wc) fun wd kd=>coR<|qR 5 [] kd fun we ke=>?_
   refine wM (QCv (QWq A ss.length cp hcp _))<|qE [] ke fun wf kf=>JE<|JR (.slice A ss.length ss.length) ⟨A,d.length,?_,(hci.below kf.touch.below).more kf.touch.size,Nat.le_refl _,fun e=>hln▸hA e,bOn hBc kf,fun q e=>by have:=(hownb.lt q.block (by rw[e];rfl)).1;omega⟩
   rw[hln]
 · refine coR<|wM (QUZ hrun)<|wM (QP4 (.bool true) #[.bool true,.int .u16 x,.int .u8 c])<|wT<|coS<|coT<|JC<|eoT<|coB<|coR<|wM (QVS hen)<|qE [] (Many.begin w6) fun wa ka=>?_
   have hB6:Below w.heap.size w w6:=jM hB hg6 hwr hB.size
   have hown6:w6.ownsRow (r+1) 55 2 v ss.length (cvs ss):=hown.kept hg6 (by
    cases h:v.ownBlock with
    | none=>exact .inl rfl
    | some g=>exact .inr fun e=>by cases e;have:=(hown.lt _ h).1;omega)
   refine coZ<|qR 4 [] ka fun wb kb=>wM (X7 (bsC x c wb))<|?_
   have hownb:=(own_below hown6 kb.touch.below).alloc (.cells #[.int .u16 x,.int .u8 c] 55)
   have hRb:=(hR6.below kb.touch.below)
   have hRb':RangeAt (wb.alloc (.cells #[.int .u16 x,.int .u8 c] 55)) b r n m _ cnt':=hRb.below (Below.alloc (Below.refl _ _) (Nat.le_refl _) _)
   refine qAc (.tmp 13) (.tmp 17) (r+1) _ v ss.length ss (some ⟨wb.heap.size,0,none⟩) 1 [(x,c)] hRb'.lt hownb (QCh wb x c _) (fun e=>by cases e) (by show ss.length+1≤_;omega) fun v' wc own' g'=>?_
   have hne:∀ q,q≤r→some q≠v.ownBlock:=fun q hq e=>by have:=(hownb.lt q e.symm).1;omega
   have hBc:=qo (ja (bOn hB6 kb) _) g' hownb (by omega) (ja (bOn hB6 kb) _).size
   refine qF [] (Many.begin wc) fun wd kd=>eoB<|Qf (fun y=>⟨ss++[(x,c)],v',fun z=>left z&&!decide (z=x),cnt',y⟩) ⟨bOn hBc kd,?_,(hRb'.grown g' (hne b (by omega)) (hne r (Nat.le_refl _))).below kd.touch.below,?_,?_,?_⟩ hlt
   · show wd.ownsRow _ _ _ v' (ss++[(x,c)]).length _
     rw[List.length_append]
     exact own_below own' kd.touch.below
   · intro p
     show p∈ss++[(x,c)]↔p∈m∧(left p.1&&!decide (p.1=x))=false
     rw[List.mem_append,hmem,List.mem_singleton]
     constructor
     · rintro (⟨h1,h2⟩|rfl)
       · exact⟨h1,by rw[h2];rfl⟩
       · exact⟨hxm,by simp⟩
     · rintro ⟨h1,h2⟩
       by_cases e:p.1=x
       · exact .inr (QL6 hs h1 hxm e)
       · rw[decide_eq_false e] at h2
         exact .inl ⟨h1,by simpa using h2⟩
   · show (ss++[(x,c)]).Pairwise _
     rw[List.pairwise_append]
     refine⟨hpw,List.pairwise_singleton _ _,fun p hp q hq=>?_⟩
     rw[List.mem_singleton] at hq
     subst hq
     intro e
     have e:p.1=x:=e
     have:=((hmem p).1 hp).2
     rw[e,hlx] at this
     cases this
   · show (ss++[(x,c)]).length+cnt'≤m.length
     simp
     omega
theorem Gives.on {w w1 w2:World} {m:List (Int×Int)} {e:Ending}(hB:Below w.heap.size w w1)(h:Gives w1 m e w2):Gives w m e w2:=by
 obtain⟨A',c,h1,h2,h3,h4,h5⟩:=h
 exact⟨A',c,h1,h2,h3,h4,hB.trans (h5.mono hB.size)⟩
theorem QMT (A:Option Addr)(cap:Nat)(l:List (Int×Int))(hl:l.length≤100000000)(h16:Jk l)(w:World)(hin:CellsIn w w.heap.size A l) :
 Calls Tryz.prog 107 #[.slice A l.length cap] w (QQy w (mkS l)):=by
 go_enter Tryz.func107,Tryz.ntmps107
 refine JA<|qQ [] (Many.begin w) fun w1 k1=>coR<|qR 1 [] k1 fun w2 k2=>kX (QGr A cap l (by omega) h16 w2 ((hin.below k2.touch.below).more k2.touch.size)) ?_
 rintro e w3 ⟨b,hb,rfl,hM,hB⟩
 have hB3:Below w.heap.size w w3:=k2.touch.below.trans (hB.mono k2.touch.size)
 refine⟨_,rfl,kX (QNV b _ (mkS l) (QA7 l) (Nat.le_trans (QHH l) hl) w3 hM) ?_⟩
 rintro e w4 ⟨A',c,rfl,g1,g2,g3,g4,g5⟩
 refine⟨_,rfl,qE [] (Many.begin w4) fun w5 k5=>JE<|JR (.slice A' (mkS l).length c) ⟨A',c,rfl,(g1.below k5.touch.below).more k5.touch.size,g2,g3,bOn (hB3.trans (g4.mono hB3.size)) k5,fun q e=>Nat.le_trans hB3.size (g5 q e)⟩⟩
theorem QUt (A:Option Addr)(n c:Nat)(h:n≤c)(w:World):(Instr.sliceAt 25 (.slice A n c) none (some (.int .i64 (n:Int))) (some (.int .i64 (n:Int)))).run Tryz.prog w=.ok (.slice A n n) w:=by
 have h1:¬((n:Int) < 0):=by omega
 have h2:¬((c:Int) < n):=by omega
 simp[go_sem,h,h1,h2]
theorem QNw (A:Option Addr)(n c:Nat)(h:n≤c)(w:World):Calls Tryz.prog 105 #[.slice A n c] w fun e w'=>e=.returned (.slice A n n)∧Below w.heap.size w w':=by
 go_enter Tryz.func105,Tryz.ntmps105
 exact JA<|qQ [] (Many.begin w) fun w1 k1=>coR<|qR 5 [] k1 fun w2 k2=>wM (QCv (QUt A n c h w2))<|qE [] k2 fun w3 k3=>JE<|JR (.slice A n n) ⟨rfl,k3.touch.below⟩
theorem bs0 (w:World):(Instr.buildSlice 26 0 #[]).run Tryz.prog w=.ok (.slice (some ⟨w.heap.size,0,none⟩) 0 0) (w.alloc (.cells #[] 5)):=by simp[go_sem]
theorem CellsIn.off {w w':World} {B n:Nat} {A:Option Addr} {l:List (Int×Int)}(h:CellsIn w B A l)(hn:∀ q,A=some q→n≤q.block)(k:∀ b,n≤b→b < B→w'.heap[b]? = w.heap[b]?):CellsIn w' B A l:=fun j c hc=>by
 obtain⟨p,e,hp,h0,h1⟩:=h j c hc
 exact⟨p,e,hp,(World.cell?_of_block (by rw[add_block];exact k _ (hn p e) hp)).trans h0,(World.cell?_of_block (by rw[add_block,add_block];exact k _ (hn p e) hp)).trans h1⟩
theorem BytesIn.off {w w':World} {B n:Nat} {A:Option Addr} {l:List Int}(h:BytesIn w B A l)(hn:∀ q,A=some q→n≤q.block)(k:∀ b,n≤b→b < B→w'.heap[b]? = w.heap[b]?):BytesIn w' B A l:=fun j c hc=>by
 obtain⟨p,e,hp,h0⟩:=h j c hc
 exact⟨p,e,hp,(World.cell?_of_block (by rw[add_block];exact k _ (hn p e) hp)).trans h0⟩
theorem CysIn.off {w w':World} {B n:Nat} {A:Option Addr} {l:List Cy}(h:CysIn w B A l)(hn:∀ q,A=some q→n≤q.block)(k:∀ b,n≤b→b < B→w'.heap[b]? = w.heap[b]?):CysIn w' B A l:=fun j c hc=>by
 obtain⟨p,e,hp,h0⟩:=h j c hc
 exact⟨p,e,hp,(World.cell?_of_block (by rw[add_block];exact k _ (hn p e) hp)).trans h0⟩
def QVm (w:World)(p:List Int)(e:Ending)(w':World):Prop:=∃ v,e=.returned v∧w'.ownsRow w.heap.size 5 1 v p.length (bvs p)∧Below w.heap.size w w'
theorem QLI {W:World}(A:Option Addr)(c:Nat)(p:List Int)(hin:BytesIn W W.heap.size A p)(hn:A=none→c=0)(hc:p.length≤c)(hl:p.length≤1000000):Calls Tryz.prog 108 #[.slice A p.length c] W (QVm W p):=by
 go_enter Tryz.func108,Tryz.ntmps108
 cases A with
 | none =>
   obtain rfl:=hn rfl
   obtain rfl:p=[]:=List.eq_nil_of_length_eq_zero (by omega)
   exact JA<|qQ [] (Many.begin W) fun w1 k1=>coS<|qQ [] k1 fun w2 k2=>coT<|qQ [] k2 fun w3 k3=>JE<|Je<|JR (.slice none 0 0) ⟨_,rfl,World.ownsRow_nil ..,k3.touch.below⟩
 | some q =>
   refine JA<|qQ [] (Many.begin W) fun w1 k1=>coS<|qQ [] k1 fun w2 k2=>coF<|JC<|eoT<|coR<|wM (X7 (bs0 w2)) ?_
   have hb2:=k2.touch.below
   have hB:Below W.heap.size W (w2.alloc (.cells #[] 5)):=hb2.trans ((Below.alloc (Below.refl _ _) (Nat.le_refl _) _).mono hb2.size)
   have own:(w2.alloc (.cells #[] 5)).ownsRow w2.heap.size 5 1 (.slice (some ⟨w2.heap.size,0,none⟩) 0 0) 0 (bvs []):=by
    have:=World.ownsRow_lit (base:=w2.heap.size) (size:=1) (e:=5) w2 #[] 0 (Nat.le_refl _) (by decide) rfl
    exact this
   refine qR 1 [] (Many.begin _) fun w3 k3=>qA (.tmp 5) (.tmp 6) W w2.heap.size W.heap.size (.slice (some ⟨w2.heap.size,0,none⟩) 0 0) 0 [] (some q) c p (hB.trans (k3.touch.below.mono hB.size)) hb2.size (by have:=k3.touch.size;simp at this;omega) (own_below own k3.touch.below) (hin.below (hB.trans (k3.touch.below.mono hB.size))) hn (by omega) fun v4 w4 own4 hB4 hs4=>?_
   rw[Nat.zero_add,List.nil_append] at own4
   refine qE [] (Many.begin w4) fun w5 k5=>?_
   exact JE<|JR v4 ⟨v4,rfl,own_below (QCH own4 hb2.size) k5.touch.below,hB4.trans (k5.touch.below.mono hB4.size)⟩
section
variable {P:Program} {base:List Value} {l:JY} {w:World} {fn:Func} {R:Ending→World→Prop}
theorem eoK1 {s1:Tmp} {t u:TypeId} {b1:Nat} {cs:Array Value}(r:Row w b1 u cs)(hR:R (.returned (.agg cs)) w)(hres:fn.results=#[.cell s1 t]:=by exact rfl)
 (ht:((P.underlying t).map (·.isRow),(P.info? t).map (·.size))=(some true,some cs.size):=by kernel_rfl)(k1:lkO base s1 l=pT b1 0:=by kernel_rfl):EO (bodyPost P fn R) .ret base l w:=by
 simp only[Prod.mk.injEq] at ht
 cases hu:P.underlying t with
 | none=>rw[hu] at ht;cases ht.1
 | some d =>
   rw[hu] at ht
   have hd:d.isRow=true:=by have:=ht.1;injection this
   have e1:=Xi r hu hd ht.2
   refine⟨fun hin=>bodyPost_ret (v:=.agg cs) ?_ (by rfl) hR⟩
   have h1:(XW base l).tmps[s1]?.getD undef=pT b1 0:=by have:=(congrFun (Jj hin) (.tmp s1)).trans k1;simpa [Act.eval] using this
   simp[results,hres,h1,asAddr,e1]
theorem eoK2 {s1 s2:Tmp} {t u:TypeId} {b1:Nat} {cs:Array Value} {V2:Value}(r:Row w b1 u cs)(hR:R (.returned (.tuple #[.agg cs,V2])) w)(hres:fn.results=#[.cell s1 t,.tmp s2]:=by exact rfl)
 (ht:((P.underlying t).map (·.isRow),(P.info? t).map (·.size))=(some true,some cs.size):=by kernel_rfl)(k1:lkO base s1 l=pT b1 0:=by kernel_rfl)(k2:lkO base s2 l=V2:=by kernel_rfl):EO (bodyPost P fn R) .ret base l w:=by
 simp only[Prod.mk.injEq] at ht
 cases hu:P.underlying t with
 | none=>rw[hu] at ht;cases ht.1
 | some d =>
   rw[hu] at ht
   have hd:d.isRow=true:=by have:=ht.1;injection this
   have e1:=Xi r hu hd ht.2
   refine⟨fun hin=>bodyPost_ret (v:=.tuple #[.agg cs,V2]) ?_ (by rfl) hR⟩
   have h1:(XW base l).tmps[s1]?.getD undef=pT b1 0:=by have:=(congrFun (Jj hin) (.tmp s1)).trans k1;simpa [Act.eval] using this
   have h2:(XW base l).tmps[s2]?.getD undef=V2:=by have:=(congrFun (Jj hin) (.tmp s2)).trans k2;simpa [Act.eval] using this
   simp[results,hres,h1,h2,asAddr,e1]
theorem eoK3 {s1 s2 s3:Tmp} {t u:TypeId} {b1:Nat} {cs:Array Value} {V2 V3:Value}(r:Row w b1 u cs)(hR:R (.returned (.tuple #[.agg cs,V2,V3])) w)(hres:fn.results=#[.cell s1 t,.tmp s2,.tmp s3]:=by exact rfl)
 (ht:((P.underlying t).map (·.isRow),(P.info? t).map (·.size))=(some true,some cs.size):=by kernel_rfl)(k1:lkO base s1 l=pT b1 0:=by kernel_rfl)(k2:lkO base s2 l=V2:=by kernel_rfl)(k3:lkO base s3 l=V3:=by kernel_rfl):EO (bodyPost P fn R) .ret base l w:=by
 simp only[Prod.mk.injEq] at ht
 cases hu:P.underlying t with
 | none=>rw[hu] at ht;cases ht.1
 | some d =>
   rw[hu] at ht
   have hd:d.isRow=true:=by have:=ht.1;injection this
   have e1:=Xi r hu hd ht.2
   refine⟨fun hin=>bodyPost_ret (v:=.tuple #[.agg cs,V2,V3]) ?_ (by rfl) hR⟩
   have h1:(XW base l).tmps[s1]?.getD undef=pT b1 0:=by have:=(congrFun (Jj hin) (.tmp s1)).trans k1;simpa [Act.eval] using this
   have h2:(XW base l).tmps[s2]?.getD undef=V2:=by have:=(congrFun (Jj hin) (.tmp s2)).trans k2;simpa [Act.eval] using this
   have h3:(XW base l).tmps[s3]?.getD undef=V3:=by have:=(congrFun (Jj hin) (.tmp s3)).trans k3;simpa [Act.eval] using this
   simp[results,hres,h1,h2,h3,asAddr,e1]
end
def InW (W:World)(B:Nat)(V:Value)(w:Wd):Prop:=∃ A c A' c',V=Xd w.g (.slice A w.m.length c) (.slice A' w.p.length c')∧CellsIn W B A w.m∧(A=none→c=0)∧w.m.length≤c∧BytesIn W B A' w.p∧(A'=none→c'=0)∧w.p.length≤c'
theorem InW.below {W W':World} {B:Nat} {V:Value} {w:Wd}(h:InW W B V w)(k:Below B W W'):InW W' B V w:=by
 obtain⟨A,c,A',c',h1,h2,h3,h4,h5,h6,h7⟩:=h
 exact⟨A,c,A',c',h1,h2.below k,h3,h4,h5.below k,h6,h7⟩
theorem InW.more {W:World} {B B':Nat} {V:Value} {w:Wd}(h:InW W B V w)(k:B≤B'):InW W B' V w:=by
 obtain⟨A,c,A',c',h1,h2,h3,h4,h5,h6,h7⟩:=h
 exact⟨A,c,A',c',h1,h2.more k,h3,h4,h5.more k,h6,h7⟩
theorem InW.on {W W':World} {V:Value} {w:Wd}(h:InW W W.heap.size V w)(k:Below W.heap.size W W'):InW W' W'.heap.size V w:=(h.below k).more k.size
def InO (W:World)(n:Nat)(V:Value)(w:Wd):Prop:=∃ A c A' c',V=Xd w.g (.slice A w.m.length c) (.slice A' w.p.length c')∧CellsIn W W.heap.size A w.m∧(A=none→c=0)∧w.m.length≤c∧BytesIn W W.heap.size A' w.p∧(A'=none→c'=0)∧w.p.length≤c'∧(∀ q,A=some q→n≤q.block)∧(∀ q,A'=some q→n≤q.block)
theorem InO.kept {S:Nat→Prop} {W W':World} {n:Nat} {V:Value} {w:Wd}(h:InO W n V w)(k:Kept S W W')(hS:∀ b,S b→b < n):InW W' W'.heap.size V w:=by
 obtain⟨A,c,A',c',h1,h2,h3,h4,h5,h6,h7,h8,h9⟩:=h
 exact⟨A,c,A',c',h1,(h2.off h8 fun b e e2=>k.block b e2 fun x=>by have:=hS b x;omega).more k.size,h3,h4,(h5.off h9 fun b e e2=>k.block b e2 fun x=>by have:=hS b x;omega).more k.size,h6,h7⟩
theorem InO.on {W W':World} {n:Nat} {V:Value} {w:Wd}(h:InO W n V w)(k:Below W.heap.size W W'):InO W' n V w:=by
 obtain⟨A,c,A',c',h1,h2,h3,h4,h5,h6,h7,h8,h9⟩:=h
 exact⟨A,c,A',c',h1,(h2.below k).more k.size,h3,h4,(h5.below k).more k.size,h6,h7,h8,h9⟩
theorem InO.keptO {S:Nat→Prop} {W W':World} {n n':Nat} {V:Value} {w:Wd}(h:InO W n V w)(k:Kept S W W')(hS:∀ b,S b→b < n)(hn:n'≤n):InO W' n' V w:=by
 obtain⟨A,c,A',c',h1,h2,h3,h4,h5,h6,h7,h8,h9⟩:=h
 exact⟨A,c,A',c',h1,(h2.off h8 fun b e e2=>k.block b e2 fun x=>by have:=hS b x;omega).more k.size,h3,h4,(h5.off h9 fun b e e2=>k.block b e2 fun x=>by have:=hS b x;omega).more k.size,h6,h7,fun q e=>Nat.le_trans hn (h8 q e),fun q e=>Nat.le_trans hn (h9 q e)⟩
theorem InO.inW {W:World} {n:Nat} {V:Value} {w:Wd}(h:InO W n V w):InW W W.heap.size V w:=h.kept (.refl (fun _=>False) W) fun _ e=>e.elim
theorem QJ2 {V:Value} {w:Wd}(W:World)(h:InW W W.heap.size V w):Calls Tryz.prog 82 #[V] W fun e W'=>∃ J M P,e=.returned (pT J 0)∧Jny W.heap.size J W' w.g M P none w.m w.p 0 0∧Below W.heap.size W W':=by
 obtain⟨A,c,A',c',rfl,h1,h2,h3,h4,h5,h6⟩:=h
 obtain⟨g,m,p⟩:=w
 go_enter Tryz.func82,Tryz.ntmps82
 refine JA<|qQ [] (Many.begin W) fun w1 k1=>coR<|qR 2 [0] k1 fun w2 k2=>qC (QNw A m.length c h3 w2) k2 fun w3 k3=>qE [0] k3 fun w4 k4=>qQ [0] k4 fun w5 k5=>JE<|JR (pT w4.heap.size 0) ⟨_,.slice A m.length m.length,.slice A' p.length c',rfl,⟨k5.row 1 (Xs g (.slice A m.length m.length) (.slice A' p.length c') 0 0).toList (by kernel_rfl),k4.touch.size,.inl ⟨rfl,A,rfl,h1.below k5.touch.below,fun e=>?_⟩,fun e=>(by cases e),A',c',rfl,h6,h4.below k5.touch.below,h5⟩,k5.touch.below⟩
 exact List.eq_nil_of_length_eq_zero (by have:=h2 e;have h3:m.length≤c:=h3;omega)
section
variable {W:World} {B J:Nat} {g:Rg} {M P:Value} {ob:Option Nat} {m:List (Int×Int)} {p:List Int} {k n:Int}
theorem QOq (h:Jny B J W g M P ob m p k n)(hl:m.length≤900000)(h16:Jk m)(hp:p.length≤1000000):Calls Tryz.prog 84 #[pT J 0] W fun e W'=>∃ V,e=.returned V∧InO W' W.heap.size V ⟨g,mkS m,p⟩∧Below W.heap.size W W':=by
 go_enter Tryz.func84,Tryz.ntmps84
 have hJ:=h.row.lt
 obtain⟨A,c,rfl,hin⟩:=h.mem.slice h.lt
 obtain⟨Ap,cp,rfl,hcp,hip,hnp⟩:=h.por
 refine JA<|qQ [] (Many.begin W) fun w1 k1=>?_
 have hb1:=k1.touch.below
 have rR:Row w1 W.heap.size 28 (J9 Jf (.slice none 0 0) (.slice none 0 0)):=k1.row 0 (J9 Jf (.slice none 0 0) (.slice none 0 0)).toList (by kernel_rfl)
 have k2:=Many.two (h.row.below hb1 hJ) rR (by omega)
 refine coP (S:=Many w1 [J,W.heap.size] _) 18 k2.drew ?_
 have hb2:Below w1.heap.size w1 w1.drew:=(Below.refl _ _).drew
 obtain⟨w2,hw2⟩:∃ w2,w2=w1.drew:=⟨_,rfl⟩
 have k2:=k2.drew
 rw[←hw2] at hb2 k2 ⊢
 have hB2:Below W.heap.size W w2:=hb1.trans (hb2.mono hb1.size)
 refine qD 0 [0,1,2,3,4,5,6,7,8,9,11,12,13,14,15] k2<|zO 10 (soC (QMT A c m (by omega) h16 w2 ((hin.below hB2).more hB2.size)) fun e w3 ⟨A3,c3,he,hc3,hcc3,hn3,hb3,hq3⟩=>⟨_,he,k2.below hb3,?_⟩)
 have hB3:Below W.heap.size W w3:=hB2.trans (hb3.mono hB2.size)
 have k3:=k2.below hb3
 refine zO 16 (soC (QLI Ap cp p (((hip.more h.lt).below hB3).more hB3.size) hnp hcp hp) fun e w4 ⟨v4,he4,own4,hb4⟩=>⟨_,he4,k3.below hb4,?_⟩)
 obtain⟨A4,c4,rfl,-,-,-⟩:=QAY own4
 refine qD 0 [17] (k3.below hb4)<|poE<|qE [0] (Many.start ((rR.below hb2 rR.lt) |>.below hb3 (Nat.lt_of_lt_of_le rR.lt hb2.size) |>.below hb4 (Nat.lt_of_lt_of_le rR.lt (Nat.le_trans hb2.size hb3.size)))) fun w5 k5=>JE ?_
 have hB4:Below W.heap.size W w4:=hB3.trans (hb4.mono hB3.size)
 have r5:Row w5 W.heap.size 28 (J9 g (.slice A3 (mkS m).length c3) (.slice A4 p.length c4)):=k5.row 0 (J9 g (.slice A3 (mkS m).length c3) (.slice A4 p.length c4)).toList (by kernel_rfl)
 have q5:Kept (fun b=>b=W.heap.size) w4 w5:=(Kept.of_touch k5.touch).mono fun b _ e=>List.mem_singleton.1 e
 have hs5:=q5.size
 have hR2:W.heap.size < w2.heap.size:=Nat.lt_of_lt_of_le rR.lt hb2.size
 have own5:=q5.own own4 fun b e x=>by have:=(own4.lt b e).1;have x:b=W.heap.size:=x;have:=hb3.size;omega
 obtain⟨A5,c5,e5,hc5,hb5,hn5⟩:=QAY own5
 injection e5 with e5 e6 e7
 subst e5 e7
 have hq4:=(hc3.below hb4).off hq3 (w':=w5) fun b h1 h2=>q5.block b (Nat.lt_of_lt_of_le h2 hb4.size) (by omega)
 exact eoK1 r5 ⟨_,rfl,⟨A3,c3,A4,c4,rfl,hq4.more (Nat.le_trans hb4.size hs5),hn3,hcc3,hb5,hn5,hc5,fun q e=>by have:=hq3 q e;omega,fun q e=>by
  have:=(own5.lt q.block (by rw[e];rfl)).1
  have:=hb3.size
  omega⟩,q5.low hB4 hB4.size fun b e=>by have e:b=W.heap.size:=e;omega⟩
end
theorem Many.wide {w0 w:World} {L L':List Nat} {rs:List RowK}(h:Many w0 L rs w)(hs:∀ x∈L,x∈L'):Many w0 L' rs w :=
 ⟨h.rows,h.dis,fun i r hr=>(h.own i r hr).imp (hs _) id,h.touch.os,h.touch.tape,h.touch.output,h.touch.size,fun b hb n=>h.touch.block b hb fun e=>n (hs b e)⟩
theorem Many.beside {w0 w:World} {L:List Nat} {rs:List RowK}(h:Many w0 L rs w){b:Nat}(hb:b∈L)(hn:∀ r∈rs,r.b≠b)(o:Nat)(vs:List Value):Many w0 L rs (w.setCells b o vs):=by
 have k:=QIv b vs o (Besides.refl b b w)
 refine⟨fun i r hr=>?_,h.dis,h.own,h.touch.trans ⟨k.os,k.tape,k.output,k.size,fun x hx n=>k.block x hx (fun e=>n (e▸hb)) fun e=>n (e▸hb)⟩⟩
 obtain⟨full,h1,h2⟩:=h.rows i r hr
 exact⟨full,Row.setFar (hn r (List.mem_of_getElem? hr)) vs o h1,h2⟩
theorem soW {P:Program} {ops:Array Oper} {Q:Exit→Act→World→Prop} {base:List Value} {l:JY} {w:World} {S:World→Prop} {n f i:Nat} {listed:Array Bool} {x y:Operand} {b:Nat} {t u:TypeId} {cs ds:Array Value}(hr:Row w b u ds)(hS:S (w.setCells b 0 cs.toList))(h:PO P ops Q S n base f (listed.setIfInBounds i true) l (w.setCells b 0 cs.toList))
 (h1:cs.toList.all (·.oneCell')=true)(hsz:ds.size=cs.size)(ho:(ZX ops i).op=.store t x y:=by exact rfl)(hx:evO base l x=pT b 0:=by kernel_rfl)(hy:evO base l y=.agg cs:=by kernel_rfl)(ht:(P.info? t).map (·.size)=some cs.size:=by kernel_rfl)
 (hd:((ZX ops i).dst.isNone,decide (i < n),J0 ops base.length base l (ZX ops i),(ops[i]?).isSome)=(true,true,some true,true):=by kernel_rfl):SO P ops Q S n base f listed i l w:=by
 simp only[Prod.mk.injEq] at hd
 obtain⟨d1,d2,d3,d4⟩:=hd
 have ho':=QBs d4
 have hdn:(ZX ops i).dst=none:=Option.isNone_iff_eq_none.1 d1
 have e1:(execOp (evO base l) (ZX ops i)).run P w=.ok .skip (w.setCells b 0 cs.toList):=QJ6 (run_storeAt_mid w b 0 t cs (hsz▸hr.there) ht (by rw[←Array.all_toList];exact h1)) ho hx hy
 refine⟨fun hi hr inv=>⟨of_decide_eq_true d2,?_⟩⟩
 unfold wpOp
 simp only[ho',Jd d3 hi,if_true]
 refine .inl ?_
 unfold Oper.wp
 rw[Jj hi,e1,Oper.upon_skip,hdn]
 exact⟨hS,h.h hi (inv.set hr (of_decide_eq_true d2))⟩
def mkW (w:Wd):Wd:=⟨w.g,mkS w.m,w.p⟩
theorem Tabs.belowK {w w':World} {B:Nat}(h:Tabs w B)(k:Below B w w'):Tabs w' B:=h.keep fun b hb=>k.block b hb
theorem QLN (hA:zM){V:Value} {w:Wd}(which v:Int)(W:World)(hw:OkW w)(hv:B8 v)(hl:w.m.length≤800000)(hp:w.p.length≤1000000)(h:InW W W.heap.size V w)(ht:Tabs W W.heap.size) :
 Calls Tryz.prog 52 #[V,.int .i64 which,.int .u8 v] W fun e W'=>∃ V' A c,e=.returned (.tuple #[V',.slice A (Js w which v).l.length c,.int .i64 (Js w which v).n])∧InO W' W.heap.size V' (mkW (Qx w which v))∧CysIn W' W'.heap.size A (Js w which v).l∧(A=none→c=0)∧(Js w which v).l.length≤c∧Below W.heap.size W W':=by
 have h0:=h
 obtain⟨A,c,A',c',rfl,-⟩:=h0
 obtain⟨g,m,p⟩:=w
 go_enter Tryz.func52,Tryz.ntmps52
 refine JA<|qQ [] (Many.begin W) fun w1 k1=>coR<|qR 1 [0] k1 fun w2 k2=>kX (QJ2 w2 (h.on k2.touch.below)) fun e w3 ⟨J,M,P,he,hj,hb3⟩=>⟨_,he,qE [] (Many.begin w3) fun w4 k4=>coR<|qR 3 [] k4 fun w5 k5=>?_⟩
 have hb1:=k1.touch.below
 have hb2:=k2.touch.below
 have hb5:=k5.touch.below
 have h25:Below w2.heap.size w2 w5:=hb3.trans (hb5.mono hb3.size)
 have hW5:Below W.heap.size W w5:=hb2.trans (h25.mono hb2.size)
 have r6:Row w2 (W.heap.size+1) 28 (J9 Jf (.slice none 0 0) (.slice none 0 0)):=k2.row 1 (J9 Jf (.slice none 0 0) (.slice none 0 0)).toList (by kernel_rfl)
 have hj5:=hj.bel hb5
 have t5:Tabs w5 w2.heap.size:=(Tabs.below ht hb2).belowK h25
 have hX:=QED ⟨g,m,p⟩ which v
 have hw':=hw.pstepW hA which hv
 have hn:=QSM ⟨g,m,p⟩ which v
 refine kX (QHT hA hw.g which hv hj5 t5 (by omega) (by omega) hl hw.m hw.p) fun e w6 ⟨A6,c6,he6,hcy,hnn,hle,hqy,M',P',ob',hj6,q6,n6⟩=>⟨_,he6,qE [] (Many.begin w6) fun w7 k7=>?_⟩
 rw[Int.zero_add,Int.zero_add] at hj6
 have hb7:=k7.touch.below
 have hj7:=hj6.bel hb7
 have r5:=r6.below h25 r6.lt
 have hlow:=hj5.low
 have l6:=r6.lt
 have q67:Kept (fun b=>b=J) w5 w7:=(q6.trans (Kept.of_below (S:=fun _=>False) hb7) (fun b e=>e) fun _ _ e=>e.elim).mono fun b _ e=>by
  rcases e with e|e
  · exact e
  · cases e
 have r7:Row w7 (W.heap.size+1) 28 (J9 Jf (.slice none 0 0) (.slice none 0 0)):=q67.row r5 fun e=>by have e:W.heap.size+1=J:=e;omega
 have k7:Many w7 [J,W.heap.size+1] [⟨J,120,(Xs (ju g which (Js ⟨g,m,p⟩ which v)) M' P' 1 (Js ⟨g,m,p⟩ which v).n).toList.map some⟩] w7:=(Many.start hj7.row).wide fun x hx=>by simp at hx;simp[hx]
 refine coP (S:=Many w7 [J,W.heap.size+1] [⟨J,120,(Xs (ju g which (Js ⟨g,m,p⟩ which v)) M' P' 1 (Js ⟨g,m,p⟩ which v).n).toList.map some⟩]) 9 k7.drew ?_
 have hb8:Below w7.heap.size w7 w7.drew:=(Below.refl _ _).drew
 obtain⟨w8,hw8⟩:∃ w8,w8=w7.drew:=⟨_,rfl⟩
 have k8:=k7.drew
 rw[←hw8] at hb8 k8 ⊢
 have hj8:=hj7.bel hb8
 have l8:=r7.lt
 have s8:=hb8.size
 refine qD 0 [0,2,3,4,5,6] k8<|zO 1 (soC (QOq hj8 (Nat.le_trans hX (Nat.le_trans (Nat.add_le_add_right hl 200) (by decide))) hw'.m (Nat.le_trans (QET ⟨g,m,p⟩ which v) hp)) fun e w9 ⟨V9,he9,hO,hb9⟩=>⟨_,he9,k8.below hb9,?_⟩)
 have hO0:=hO
 obtain⟨A9,c9,Ap9,cp9,rfl,-⟩:=hO0
 have r9:=(r7.below hb8 r7.lt).below hb9 (by omega)
 have k9:=(k8.below hb9).beside (b:=W.heap.size+1) (by simp) (fun r hr=>by simp at hr;subst hr;show J≠_;omega) 0 (J9 (ju g which (Js ⟨g,m,p⟩ which v)) (.slice A9 (mkS (Js ⟨g,m,p⟩ which v).m).length c9) (.slice Ap9 (Js ⟨g,m,p⟩ which v).p.length cp9)).toList
 refine zO 7 (soW (cs:=J9 (ju g which (Js ⟨g,m,p⟩ which v)) (.slice A9 (mkS (Js ⟨g,m,p⟩ which v).m).length c9) (.slice Ap9 (Js ⟨g,m,p⟩ which v).p.length cp9)) r9 k9 ?_ (by rfl) rfl)
 obtain⟨wA,hwA⟩:∃ wA,wA=w9.setCells (W.heap.size+1) 0 (J9 (ju g which (Js ⟨g,m,p⟩ which v)) (.slice A9 (mkS (Js ⟨g,m,p⟩ which v).m).length c9) (.slice Ap9 (Js ⟨g,m,p⟩ which v).p.length cp9)).toList:=⟨_,rfl⟩
 have rA:=r9.setAll (vs:=J9 (ju g which (Js ⟨g,m,p⟩ which v)) (.slice A9 (mkS (Js ⟨g,m,p⟩ which v).m).length c9) (.slice Ap9 (Js ⟨g,m,p⟩ which v).p.length cp9)) rfl
 have bA:=QIv (W.heap.size+1) (J9 (ju g which (Js ⟨g,m,p⟩ which v)) (.slice A9 (mkS (Js ⟨g,m,p⟩ which v).m).length c9) (.slice Ap9 (Js ⟨g,m,p⟩ which v).p.length cp9)).toList 0 (Besides.refl (W.heap.size+1) (W.heap.size+1) w9)
 rw[←hwA] at rA bA k9 ⊢
 have qA0:Kept (fun b=>b=W.heap.size+1) w9 wA:=⟨bA.os,bA.tape,bA.output,bA.size,fun b hb n=>bA.block b hb n n⟩
 refine qD 0 [8] k9<|poE<|qE [] (Many.begin wA) fun wB kB=>JE ?_
 have hbB:=kB.touch.below
 have rB:=rA.below hbB rA.lt
 have qA:Kept (fun b=>b=W.heap.size+1) w9 wB:=qA0.trans (Kept.of_below (S:=fun _=>False) hbB) (fun _ e=>e) fun _ _ e=>e.elim
 refine eoK3 rB ⟨_,A6,c6,rfl,hO.keptO qA (fun b e=>by have e:b=W.heap.size+1:=e;omega) (by have:=hW5.size;have:=q67.size;omega),?_,hnn,hle,?_⟩
 · have h79:Below w7.heap.size w7 w9:=hb8.trans (hb9.mono s8)
   have h69:Below w6.heap.size w6 w9:=hb7.trans (h79.mono hb7.size)
   exact ((hcy.below h69).off hqy (w':=wB) fun b h1 h2=>qA.block b (Nat.lt_of_lt_of_le h2 h69.size) (by show ¬b=W.heap.size+1;have:=h25.size;omega)).more (Nat.le_trans h69.size qA.size)
 · have h79:Below w7.heap.size w7 w9:=hb8.trans (hb9.mono s8)
   have q59:Kept (fun b=>b=J) w5 w9:=q67.trans (Kept.of_below (S:=fun _=>False) h79) (fun _ e=>e) fun _ _ e=>e.elim
   have b9:Below W.heap.size W w9:=q59.low hW5 hW5.size fun b e=>by have e:b=J:=e;omega
   exact qA.low b9 b9.size fun b e=>by have e:b=W.heap.size+1:=e;omega
def QDp (a b:Int):Int:=if b < a then b else a
theorem xMin {P:Program} {ρ:Operand→Value} {o:Oper} {x y:Operand}(a b:Int){w:World}(ho:o.op=.call { callee:=.builtin .min,args:=#[x,y],argTypes:=#[3,3] }:=by exact rfl)(hx:ρ x=.int .i64 a:=by kernel_rfl)(hy:ρ y=.int .i64 b:=by kernel_rfl):(execOp ρ o).run P w=.ok (.value (.int .i64 (QDp a b))) w:=by
 unfold execOp
 simp[ho,hx,hy,resolve,invoke,builtin,Builtin.min_,Builtin.min2,Sem.run_bind,Sem.run_pure,Result.andThen_ok,QDp,go_sem]
structure JX where
 k:Nat
 wd:Wd
 st:Int
 M:Value
 P:Value
 ob:Option Nat
 y:Nat→Value
structure JOk (B J:Nat)(Wb:World)(w0:Wd)(q:JX)(W:World):Prop where
 jny:Jny B J W q.wd.g q.M q.P q.ob q.wd.m q.wd.p q.k q.st
 low:Below B Wb W
 ok:OkW q.wd
 ml:q.wd.m.length≤w0.m.length+200*q.k
 pl:q.wd.p.length≤w0.p.length
 s0:0≤q.st
 s1:q.st≤1400*q.k
theorem JOk.bel {B J:Nat} {Wb:World} {w0:Wd} {q:JX} {W W':World}(h:JOk B J Wb w0 q W)(k:Below W.heap.size W W'):JOk B J Wb w0 q W':=⟨h.jny.bel k,h.low.trans (k.mono h.jny.lt),h.ok,h.ml,h.pl,h.s0,h.s1⟩
def QG9 (n:Int):Nat:=(QDp n 200).toNat
theorem QSW (n:Int):QG9 n≤200:=by unfold QG9 QDp;split<;>omega
def strB (l:List Int):ByteArray:=⟨(l.map (fun x=>UInt8.ofNat x.toNat)).toArray⟩
theorem QKf {x:Int}(h:0≤x∧x≤255):((UInt8.ofNat x.toNat).toNat:Int)=x:=by
 have h1:=h.1
 have h2:=h.2
 have e:(UInt8.ofNat x.toNat).toNat=x.toNat%256:=UInt8.toNat_ofNat'
 rw[e]
 omega
theorem QUS {W:World} {B:Nat} {A:Option Addr} {l:List Int} {c:Nat}(h:BytesIn W B A l)(hl:∀ x∈l,0≤x∧x≤255):(convert 26 9 (.slice A l.length c)).run Tryz.prog W=.ok (.string (strB l)) W:=by
 cases l with
 | nil =>
   refine (run_convert_bytes_string W 26 9 5 A 0 c Tryz.underlying26 Tryz.underlying5 Tryz.underlying9).trans ?_
   cases A<;>rfl
 | cons x r =>
   obtain⟨p,rfl,-⟩:=h 0 x rfl
   have hlen:((x :: r).map (fun x=>UInt8.ofNat x.toNat)).length=(x :: r).length:=by simp
   have k:=run_convert_bytes_back (P:=Tryz.prog) W 26 9 5 p c ((x :: r).map (fun x=>UInt8.ofNat x.toNat)) Tryz.underlying26 Tryz.underlying5 Tryz.underlying9 (fun j hj=>by
    have hj':j < (x :: r).length:=by simpa using hj
    obtain⟨ad,e2,-,e3⟩:=h j (x :: r)[j] (List.getElem?_eq_getElem hj')
    cases e2
    rw[e3]
    simp only[List.getElem_map]
    rw[QKf (hl _ (List.getElem_mem hj'))])
   rw[hlen] at k
   exact k
theorem QWo (a b:Int)(w:World):(binOp .sub 22 (.int .u16 a) (.int .u16 b)).run Tryz.prog w=.ok (.int .u16 ((a-b)%65536)) w:=by simp[go_sem,IntKind.wrap_u16]
theorem QII (N:Nat):madeCells (Value.int .u8 0).cells (N*1)=(bvs (List.replicate N 0)).toArray:=by
 apply Array.ext_getElem?
 intro i
 by_cases h:i < N
 · simp[madeCells,bvs,h,Value.cells,Nat.mod_one]
 · simp[madeCells,bvs,h,Value.cells]
theorem QSK (xs:List Int)(i:Nat)(v:Int):(bvs xs).toArray.setIfInBounds i (.int .u8 v)=(bvs (xs.set i v)).toArray:=by
 simp[bvs,List.map_set]
def QSr (n:Int):Int:=if (if (0:Int) > n then 0 else n) > 4096 then 4096 else (if (0:Int) > n then 0 else n)
def dmpB (A:Option Addr)(n cap:Nat)(at_ nn:Int)(g N:Nat)(x:QFN):List Value:=[.slice A n cap,.int .u16 at_,.int .i64 nn,x.y 3,x.y 4,x.y 5,x.y 6,.slice (some ⟨g,0,none⟩) N N,x.y 8,x.y 9,x.y 10,x.y 11,x.y 12,x.y 13,x.y 14,.slice A n cap,.int .i64 (n:Int),.int .i64 (x.k:Int),x.y 18,x.y 19,x.y 20,x.y 21,x.y 22,x.y 23,x.y 24,x.y 25,x.y 26,x.y 27,x.y 28,x.y 29,x.y 30,x.y 31,x.y 32,x.y 33,x.y 34,x.y 35,x.y 36]
def dmpI (w:World)(l:List (Int×Int))(at_:Int)(g N:Nat)(x:QFN)(W:World):Prop:=Below w.heap.size w W∧Row W g 5 (bvs (QW (l.take x.k) at_ N)).toArray∧x.k≤l.length
theorem QOM (A:Option Addr)(cap:Nat)(l:List (Int×Int))(at_ n:Int)(hl:l.length≤100000000)(h16:Jk l)(ha:0≤at_∧at_≤65535)(w:World)(hin:CellsIn w w.heap.size A l) :
 Calls Tryz.prog 24 #[.slice A l.length cap,.int .u16 at_,.int .i64 n] w fun e w'=>∃ g,e=.returned (.slice (some ⟨g,0,none⟩) (jx l at_ n).length (jx l at_ n).length)∧BytesIn w' w'.heap.size (some ⟨g,0,none⟩) (jx l at_ n)∧Below w.heap.size w w':=by
 go_enter Tryz.func24,Tryz.ntmps24
 refine JA<|qQ [] (Many.begin w) fun w1 k1=>coR<|qR 3 [] k1 fun w2 k2=>?_
 obtain⟨N,hN⟩:∃ N,N=min n.toNat 4096:=⟨_,rfl⟩
 have hcN:QSr n=(N:Int):=by
  unfold QSr
  by_cases h0:(0:Int) > n
  · rw[if_pos h0,if_neg (by omega)];omega
  · rw[if_neg h0]
    by_cases h1:n > 4096
    · rw[if_pos h1];omega
    · rw[if_neg h1];omega
 obtain⟨i0,hi0,hz0,hz1,hz2⟩:=info_parts QLl
 have hmk:(Instr.makeSlice 26 (.int .i64 (QSr n)) (.int .i64 (QSr n))).run Tryz.prog w2=.ok (.slice (some ⟨w2.heap.size,0,none⟩) N N) (w2.alloc (.cells (bvs (List.replicate N 0)).toArray 5)):=by
  have:=run_make (P:=Tryz.prog) w2 26 5 i0 (.int .u8 0) Tryz.underlying26 hi0 hz0 .i64 .i64 (N:Int) (N:Int) (by omega) (by omega) (by rw[hz2];omega) (by omega)
  rw[hcN,this,hz1]
  simp only[Int.toNat_natCast,QII]
 obtain⟨g,hg⟩:∃ g,g=w2.heap.size:=⟨_,rfl⟩
 have hwg:w.heap.size≤g:=by rw[hg];exact k2.touch.size
 have hBa:Below w.heap.size w (w2.alloc (.cells (bvs (List.replicate N 0)).toArray 5)):=ja k2.touch.below _
 refine wM (QW4 hmk)<|qE [] (Many.begin _) fun w3 k3=>coS<|qQ [] (Many.begin w3) fun w4 k4=>coB<|jA (dmpB A l.length cap at_ n g N) (dmpI w l at_ g N) (fun x=>l.length-x.k) (fun y=>⟨0,y⟩) ⟨bOn (bOn hBa k3) k4,?_,Nat.zero_le _⟩ ?_ (by rw[hg];kernel_rfl)
 · show Row w4 g _ (bvs (QW (l.take 0) at_ N)).toArray
   rw[List.take_zero,QNo,hg]
   have h0:=Row.new w2 5 (bvs (List.replicate N 0)).toArray
   have h1:=h0.below k3.touch.below h0.lt
   exact h1.below k4.touch.below h1.lt
 clear hmk hBa k3 k4 hg
 rintro ⟨k,y⟩ W ⟨hB,hrow,hk⟩
 have hk:k≤l.length:=hk
 have hrow:Row W g 5 (bvs (QW (l.take k) at_ N)).toArray:=hrow
 refine qQ [] (Many.begin W) fun wa ka=>coS<|coI (decide ((k:Int) < (l.length:Int))) (fun hlt=>JC<|eoT<|coS<|coB<|?_) fun hge=>coX<|jv<|jv<|QE9<|eoT ?_
 · have hlt:k < l.length:=by have:(k:Int) < (l.length:Int):=by simpa using hlt
                             omega
   obtain⟨p,rfl,-⟩:=hin.at_ hlt
   have hc:=h16 _ (List.getElem_mem hlt)
   have hset:=QMR (l.take k) l[k] at_ N ha ⟨hc.1,hc.2.1⟩ (by omega)
   rw[←QCy l k hlt] at hset
   refine coR<|wM (Jm (QKH p l.length cap k hlt _))<|wM (Jc ((hin.below (bOn hB ka)).ldW hlt))<|qE [0] ka fun wb kb=>coR<|qR 3 [0] kb fun wc kc=>wM (Xb (QHj _ _ _ l[k].1 at_ _) (QWo l[k].1 at_ _))<|wM (QBL (cv16 ((l[k].1-at_)%65536) (by omega) _))<|qE [] kc fun wd kd=>qQ [] kd fun we ke=>coI (decide (((l[k].1-at_)%65536) < (N:Int))) (fun h=>?_) fun h=>?_
   · have h:(l[k].1-at_)%65536 < (N:Int):=by simpa using h
     obtain⟨j,hj⟩:∃ j:Nat,(l[k].1-at_)%65536=(j:Int):=⟨((l[k].1-at_)%65536).toNat,by omega⟩
     have hjN:j < N:=by omega
     have hre:=hrow.below ke.touch.below hrow.lt
     have hix:∀ w,(Instr.indexAt 26 (.slice (some ⟨g,0,none⟩) N N) (.int .i64 ((l[k].1-at_)%65536))).run Tryz.prog w=.ok (.pointer (some ((⟨g,0,none⟩:Addr).add j))) w:=fun w=>by rw[hj];exact ixB _ N N j hjN w
     have eadd:(⟨g,0,none⟩:Addr).add j=⟨g,j,none⟩:=by
      unfold Addr.add
      split
      · rename_i h0;rw[h0]
      · simp
     refine coZ<|qR 4 [0] ke fun wf kf=>wM (Jm (hix _))<|?_
     have hrf:=hrow.below kf.touch.below hrow.lt
     have hsz:j < (bvs (QW (l.take k) at_ N)).toArray.size:=by
      simp[bvs,Xr];exact hjN
     have hcell:wf.cell? ((⟨g,0,none⟩:Addr).add j)=some (bvs (QW (l.take k) at_ N)).toArray[j]:=by
      rw[eadd,hrf.cell j]
      exact Array.getElem?_eq_getElem hsz
     have hst:(Instr.storeAt 5 (.pointer (some ((⟨g,0,none⟩:Addr).add j))) (.int .u8 l[k].2)).run Tryz.prog wf=.ok () (wf.setCell ⟨g,j,none⟩ (.int .u8 l[k].2)):=by
      rw[←eadd]
      exact QJH (by kernel_rfl) hcell (by rw[eadd];exact hrf.frozen j) rfl
     have hrow':Row (wf.setCell ⟨g,j,none⟩ (.int .u8 l[k].2)) g 5 (bvs (QW (l.take (k+1)) at_ N)).toArray:=by
      have:=hrf.set j (.int .u8 l[k].2)
      rw[QSK] at this
      rw[hset,hj]
      exact this
     have hBs:Below w.heap.size w (wf.setCell ⟨g,j,none⟩ (.int .u8 l[k].2)):=(bOn hB kf).setCell hwg _
     refine wD (QJ6 hst)<|woE<|eoB<|eoT<|coZ<|wM (QBc k (by omega))<|qF [] (Many.begin _) fun wh kh=>Qf (fun y=>⟨k+1,y⟩) ⟨bOn hBs kh,hrow'.below kh.touch.below hrow'.lt,hlt⟩ (by show l.length-(k+1) < l.length-k;omega)
   · have h:¬((l[k].1-at_)%65536 < (N:Int)):=by simpa using h
     refine JC<|eoB<|eoT<|coZ<|wM (QBc k (by omega))<|qF [] ke fun wh kh=>Qf (fun y=>⟨k+1,y⟩) ⟨bOn hB kh,?_,hlt⟩ (by show l.length-(k+1) < l.length-k;omega)
     show Row wh g _ (bvs (QW (l.take (k+1)) at_ N)).toArray
     rw[hset,List.set_eq_of_length_le (by rw[Xr];omega)]
     exact hrow.below kh.touch.below hrow.lt
 · have hkl:k=l.length:=by have:¬((k:Int) < (l.length:Int)):=by simpa using hge
                           omega
   subst hkl
   rw[List.take_length] at hrow
   have e:jx l at_ n=QW l at_ N:=by unfold jx;rw[hN]
   have hrz:=hrow.below ka.touch.below hrow.lt
   refine qQ [] ka fun wz kz=>JE<|JR (.slice (some ⟨g,0,none⟩) N N) ⟨g,?_,?_,bOn hB kz⟩
   · rw[e,Xr]
   · rw[e]
     exact QCX (hrow.below kz.touch.below hrow.lt)
def QW3 (A:Option Addr)(n cap:Nat)(at_ nn:Int)(x:QL0):List Value:=[.slice A n cap,.int .u16 at_,.int .i64 nn,x.y 3,x.y 4,x.y 5,x.y 6,x.v,.int .i64 (x.k:Int),x.y 9,x.y 10,x.y 11,x.y 12,x.y 13,x.y 14,x.y 15,x.y 16,x.y 17,x.y 18,x.y 19,x.y 20,x.y 21,x.y 22,x.y 23,x.y 24,x.y 25,x.y 26,x.y 27]
def QWb (w:World)(l:List (Int×Int))(at_:Int)(N:Nat)(x:QL0)(W:World):Prop:=Below w.heap.size w W∧W.ownsRow w.heap.size 5 1 x.v x.k (bvs (QW l at_ x.k))∧x.k≤N
theorem QEP (A:Option Addr)(cap:Nat)(l:List (Int×Int))(at_ n:Int)(hl:l.length≤100000000)(h16:Jk l)(ha:0≤at_∧at_≤65535)(w:World)(hin:CellsIn w w.heap.size A l) :
 Calls Tryz.prog 19 #[.slice A l.length cap,.int .u16 at_,.int .i64 n] w fun e w'=>∃ A' c,e=.returned (.slice A' (jx l at_ n).length c)∧BytesIn w' w'.heap.size A' (jx l at_ n)∧(jx l at_ n).length≤c∧(A'=none→c=0)∧Below w.heap.size w w':=by
 obtain⟨N,hN⟩:∃ N,N=min n.toNat 4096:=⟨_,rfl⟩
 have eN:jx l at_ n=QW l at_ N:=by unfold jx;rw[hN]
 rw[eN]
 go_enter Tryz.func19,Tryz.ntmps19
 refine JA<|qQ [] (Many.begin w) fun w1 k1=>qQ [] k1 fun w2 k2=>coS<|qQ [] k2 fun w3 k3=>coB<|jA (QW3 A l.length cap at_ n) (QWb w l at_ N) (fun x=>N-x.k) (fun y=>⟨0,.slice none 0 0,y⟩) ⟨k3.touch.below,World.ownsRow_nil ..,Nat.zero_le _⟩ ?_
 rintro ⟨k,v,y⟩ W ⟨hB,hown,hk⟩
 have hk:k≤N:=hk
 have hown:W.ownsRow w.heap.size 5 1 v k (bvs (QW l at_ k)):=hown
 have out:∀ wz,Below w.heap.size w wz→wz.ownsRow w.heap.size 5 1 v k (bvs (QW l at_ k))→k=N→∃ A' c,v=.slice A' (QW l at_ N).length c∧BytesIn wz wz.heap.size A' (QW l at_ N)∧(QW l at_ N).length≤c∧(A'=none→c=0)∧Below w.heap.size w wz:=by
  intro wz hz ho e
  subst e
  obtain⟨A',c,rfl,hc,hb,hn⟩:=QAY ho
  exact⟨A',c,by rw[Xr],hb,by rw[Xr];exact hc,hn,hz⟩
 refine coS<|coR<|qR 4 [] (Many.begin W) fun wa ka=>?_
 by_cases h1:(k:Int) < n
 · refine tell 12 (decide_eq_true h1)<|qE [] ka fun wb kb=>coI (decide ((k:Int) < 4096)) (fun h2=>JC<|eoT<|coS<|coB<|?_) fun h2=>coX<|jv<|jv<|QE9<|eoT<|qQ [] kb fun wz kz=>?_
   · have h2:(k:Int) < 4096:=by simpa using h2
     have hkN:k < N:=by omega
     refine coZ<|qR 4 [] kb fun wc kc=>wM (QBL (QMB (k:Int) (by omega) _))<|wM (Xb (QHj _ _ _ at_ (k:Int) _) (QT8 at_ (k:Int) _))<|kO (QCw A cap l ((at_+(k:Int))%65536) (by omega) _ ((hin.below (bOn hB kc)).more (bOn hB kc).size)) fun wd hbd=>qR 1 [] (Many.begin wd) fun we ke=>?_
     have hBd:Below w.heap.size w wd:=(bOn hB kc).trans (hbd.mono (bOn hB kc).size)
     have hownd:=own_below (own_below hown kc.touch.below) hbd
     refine qA (.tmp 18) (.tmp 25) w w.heap.size we.heap.size v k (QW l at_ k) (some ⟨wd.heap.size,0,none⟩) 1 [QP l ((at_+(k:Int))%65536)] (bOn hBd ke) (Nat.le_refl _) (bOn hBd ke).size (own_below hownd ke.touch.below) (ke.byte (t:=5) 0 (by kernel_rfl)) (fun e=>by cases e) (by show k+1≤_;omega) fun v' wf own' hBf hsf=>qF [] (Many.begin wf) fun wg kg=>eoB<|eoT<|coZ<|qR 1 [] kg fun wh kh=>wM (QBc k (by omega))<|qF [] kh fun wi ki=>Qf (fun y=>⟨k+1,v',y⟩) ⟨bOn hBf ki,?_,hkN⟩ (by show N-(k+1) < N-k;omega)
     show wi.ownsRow _ _ _ v' (k+1) (bvs (QW l at_ (k+1)))
     rw[QKD]
     exact own_below own' ki.touch.below
   · have h2:¬((k:Int) < 4096):=by simpa using h2
     obtain⟨A',c,rfl,g1,g2,g3,g4⟩:=out wz (bOn hB kz) (own_below hown kz.touch.below) (by omega)
     exact JE<|JR (.slice A' (QW l at_ N).length c) ⟨A',c,rfl,g1,g2,g3,g4⟩
 · refine tell 12 (decide_eq_false h1)<|qE [] ka fun wb kb=>coF<|coX<|jv<|jv<|QE9<|eoT<|qQ [] kb fun wz kz=>?_
   obtain⟨A',c,rfl,g1,g2,g3,g4⟩:=out wz (bOn hB kz) (own_below hown kz.touch.below) (by omega)
   exact JE<|JR (.slice A' (QW l at_ N).length c) ⟨A',c,rfl,g1,g2,g3,g4⟩
theorem QS6 {l:List (Int×Int)}(h:(l.all fun c=>decide (0≤c.1)&&decide (c.1≤65535)&&decide (0≤c.2)&&decide (c.2≤255))=true):Jk l:=fun c hc=>by
 have:=List.all_eq_true.1 h c hc
 simp only[Bool.and_eq_true,decide_eq_true_eq] at this
 exact⟨this.1.1.1,this.1.1.2,this.1.2,this.2⟩
theorem QBK {P:Program} {w:World} {b:Nat} {t u:TypeId} {cs:Array Value}(r:Row w b u cs)(ht:((P.underlying t).map (·.isRow),(P.info? t).map (·.size))=(some true,some cs.size):=by kernel_rfl):(Instr.loadAt t (pT b 0)).run P w=.ok (.agg cs) w:=by
 simp only[Prod.mk.injEq] at ht
 cases hu:P.underlying t with
 | none=>rw[hu] at ht;cases ht.1
 | some d =>
   rw[hu] at ht
   have hd:d.isRow=true:=by have:=ht.1;injection this
   exact QPy r hu hd ht.2
def wA:Wd:=⟨Jf,mkS (Q0 0 [62,7,50,16,0]),[]⟩
theorem QWw (x:Int)(h:B8 x)(w:World):(convert 5 22 (.int .u8 x)).run Tryz.prog w=.ok (.int .u16 x) w:=by
 have e:IntKind.u16.wrap x=x:=by rw[IntKind.wrap_u16];have:=h.1;have:=h.2;omega
 simp[go_sem,e]
theorem QUi {w:Wd}(h:OkW w):OkW (mkW w):=⟨h.g,QCN h.m,h.p⟩
theorem QVQ (w:Wd):(mkW w).m.length≤w.m.length:=QHH w.m
end Go.Proofs.YtmgcgiecimnncaaGreatDoor
