/- Contracts and facts that the claim's proof wants (several texts in one). -/
import Derived.Laws.Rows
import Derived.Below
import Derived.Test.YtkgaeamdhhceiaaGreatDoorSrG1
namespace Go.Proofs.YtkgaeamdhhceiaaGreatDoor
open Go.RowKit
set_option linter.unusedVariables false
set_option linter.unusedSimpArgs false
set_option maxRecDepth 20000
set_option maxHeartbeats 20000000
theorem ZG (a n:Nat)(h:n < 8):isM (a:Int) (n:Int)=a.testBit n:=by
 have e:(a:Int) / 2 ^ n%2=((a / 2 ^ n%2:Nat):Int):=by simp
 unfold isM
 rw[Nat.testBit_eq_decide_div_mod_eq,decide_eq_true (show (0:Int)≤(n:Int) by omega),decide_eq_true (show (n:Int) < 8 by omega),Int.toNat_natCast,e]
 simp only[Bool.true_and]
 congr 1
 apply propext
 omega
theorem QA9 {Q:Int→Int→Prop}(h:∀ a b:Nat,a < 256→b < 256→Q a b)(a b:Int)(h0:0≤a)(h1:a≤255)(h2:0≤b)(h3:b≤255):Q a b:=by
 have:=h a.toNat b.toNat (by omega) (by omega)
 rwa [Int.toNat_of_nonneg h0,Int.toNat_of_nonneg h2] at this
theorem QEa (a b:Int)(n:Nat)(h:n < 8)(h0:0≤a)(h1:a≤255)(h2:0≤b)(h3:b≤255):isM (bits .and .u8 a b) n=(isM a n&&isM b n) :=
 QA9 (Q:=fun a b=>isM (bits .and .u8 a b) n=(isM a n&&isM b n)) (fun a b ha hb=>by rw[u8_and_nat a b ha hb,ZG _ _ h,ZG _ _ h,ZG _ _ h,Nat.testBit_and]) a b h0 h1 h2 h3
theorem QOm (a b:Int)(n:Nat)(h:n < 8)(h0:0≤a)(h1:a≤255)(h2:0≤b)(h3:b≤255):isM (bits .or .u8 a b) n=(isM a n||isM b n) :=
 QA9 (Q:=fun a b=>isM (bits .or .u8 a b) n=(isM a n||isM b n)) (fun a b ha hb=>by rw[u8_or_nat a b ha hb,ZG _ _ h,ZG _ _ h,ZG _ _ h,Nat.testBit_or]) a b h0 h1 h2 h3
theorem QL8 (a b:Int)(n:Nat)(h:n < 8)(h0:0≤a)(h1:a≤255)(h2:0≤b)(h3:b≤255):isM (bits .xor .u8 a b) n=(isM a n ^^ isM b n) :=
 QA9 (Q:=fun a b=>isM (bits .xor .u8 a b) n=(isM a n ^^ isM b n)) (fun a b ha hb=>by rw[u8_xor_nat a b ha hb,ZG _ _ h,ZG _ _ h,ZG _ _ h,Nat.testBit_xor]) a b h0 h1 h2 h3
theorem QOa (b n:Nat)(hb:b < 256)(h:n < 8):(255-b).testBit n=!b.testBit n:=by
 have:=Nat.testBit_two_pow_sub_succ (x:=b) (n:=8) (by omega) n
 rw[show 2 ^ 8-(b+1)=255-b by omega] at this
 simpa [h] using this
theorem QKl (a b:Int)(n:Nat)(h:n < 8)(h0:0≤a)(h1:a≤255)(h2:0≤b)(h3:b≤255):isM (bits .andNot .u8 a b) n=(isM a n&&!isM b n) :=
 QA9 (Q:=fun a b=>isM (bits .andNot .u8 a b) n=(isM a n&&!isM b n)) (fun a b ha hb=>by rw[u8_andNot_nat a b ha hb,ZG _ _ h,ZG _ _ h,ZG _ _ h,Nat.testBit_and,QOa b n hb h]) a b h0 h1 h2 h3
theorem QCf (a b:Int)(h0:0≤a)(h1:a≤255)(h2:0≤b)(h3:b≤255):0≤bits .and .u8 a b∧bits .and .u8 a b≤255 :=
 QA9 (Q:=fun a b=>0≤bits .and .u8 a b∧bits .and .u8 a b≤255) (fun a b ha hb=>by rw[u8_and_nat a b ha hb];have:=Nat.and_lt_two_pow (n:=8) a (show b < 2 ^ 8 by omega);omega) a b h0 h1 h2 h3
theorem QIS (a b:Int)(h0:0≤a)(h1:a≤255)(h2:0≤b)(h3:b≤255):0≤bits .or .u8 a b∧bits .or .u8 a b≤255 :=
 QA9 (Q:=fun a b=>0≤bits .or .u8 a b∧bits .or .u8 a b≤255) (fun a b ha hb=>by rw[u8_or_nat a b ha hb];have:=Nat.or_lt_two_pow (n:=8) (show a < 2 ^ 8 by omega) (show b < 2 ^ 8 by omega);omega) a b h0 h1 h2 h3
theorem QKX (a b:Int)(h0:0≤a)(h1:a≤255)(h2:0≤b)(h3:b≤255):0≤bits .xor .u8 a b∧bits .xor .u8 a b≤255 :=
 QA9 (Q:=fun a b=>0≤bits .xor .u8 a b∧bits .xor .u8 a b≤255) (fun a b ha hb=>by rw[u8_xor_nat a b ha hb];have:=Nat.xor_lt_two_pow (n:=8) (show a < 2 ^ 8 by omega) (show b < 2 ^ 8 by omega);omega) a b h0 h1 h2 h3
theorem QI6 (a b:Int)(h0:0≤a)(h1:a≤255)(h2:0≤b)(h3:b≤255):0≤bits .andNot .u8 a b∧bits .andNot .u8 a b≤255 :=
 QA9 (Q:=fun a b=>0≤bits .andNot .u8 a b∧bits .andNot .u8 a b≤255) (fun a b ha hb=>by rw[u8_andNot_nat a b ha hb];have:=Nat.and_lt_two_pow (n:=8) a (show 255-b < 2 ^ 8 by omega);omega) a b h0 h1 h2 h3
theorem QKH (a b:Int)(h0:0≤a)(h1:a≤255)(h2:0≤b)(h3:b≤255)(h:∀ n:Nat,n < 8→isM a n=isM b n):a=b:=by
 have key:a.toNat=b.toNat:=by
  apply Nat.eq_of_testBit_eq
  intro i
  by_cases hi:i < 8
  · have:=h i hi
    rw[show a=((a.toNat:Nat):Int) from (Int.toNat_of_nonneg h0).symm,show b=((b.toNat:Nat):Int) from (Int.toNat_of_nonneg h2).symm,ZG _ _ hi,ZG _ _ hi] at this
    exact this
  · have p:2 ^ 8≤2 ^ i:=Nat.pow_le_pow_right (by omega) (by omega)
    rw[Nat.testBit_lt_two_pow (show a.toNat < 2 ^ i by omega),Nat.testBit_lt_two_pow (show b.toNat < 2 ^ i by omega)]
 omega
def Masks (w:World):Prop:=w.cell? ⟨2,0,none⟩=some (.int .u8 64)∧w.cell? ⟨2,1,none⟩=some (.int .u8 1)∧w.cell? ⟨2,2,none⟩=some (.int .u8 4)∧w.cell? ⟨2,3,none⟩=some (.int .u8 128)
theorem Masks.below {w w':World}(h:Masks w)(k:Below w.heap.size w w'):Masks w' :=
 ⟨(k.cell (World.block_lt_of_cell? _ _ h.1)).trans h.1,(k.cell (World.block_lt_of_cell? _ _ h.2.1)).trans h.2.1,(k.cell (World.block_lt_of_cell? _ _ h.2.2.1)).trans h.2.2.1,(k.cell (World.block_lt_of_cell? _ _ h.2.2.2)).trans h.2.2.2⟩
theorem QPD:∀ x:Fin 256,(bits .and .u8 (x.val:Int) 64 != 0)=isM (x.val:Int) 6∧(bits .and .u8 (x.val:Int) 1 != 0)=isM (x.val:Int) 0∧(bits .and .u8 (x.val:Int) 4 != 0)=isM (x.val:Int) 2∧(bits .and .u8 (x.val:Int) 128 != 0)=isM (x.val:Int) 7:=by decide +kernel
theorem QFx (f:Int)(h0:0≤f)(h1:f≤255):(bits .and .u8 f 64 != 0)=isM f 6∧(bits .and .u8 f 1 != 0)=isM f 0∧(bits .and .u8 f 4 != 0)=isM f 2∧(bits .and .u8 f 128 != 0)=isM f 7 :=
 QI (P:=fun f=>(bits .and .u8 f 64 != 0)=isM f 6∧(bits .and .u8 f 1 != 0)=isM f 0∧(bits .and .u8 f 4 != 0)=isM f 2∧(bits .and .u8 f 128 != 0)=isM f 7) QPD f h0 h1
theorem QHG (f c:Int)(h:c < 0∨8≤c):jS f c=false:=by
 unfold jS
 repeat (rw[if_neg (by omega)])
theorem QPj (f c:Int)(h0:0≤f)(h1:f≤255)(w:World)(hm:Masks w) :
 Calls Tryz.prog 315 #[.int .u8 f,.int .i64 c] w fun e w'=>e=.returned (.bool (jS f c))∧w=w':=by
 obtain⟨m0,m1,m2,m3⟩:=hm
 obtain⟨k0,k1,k2,k3⟩:=QFx f h0 h1
 by_cases hc:c < 0∨8≤c
 · rw[QHG f c hc]
   rcases hc with hc|hc
   · go_enter Tryz.func315,Tryz.ntmps315
     go_wp2
     go_ret
     exact⟨rfl,rfl⟩
   · go_enter Tryz.func315,Tryz.ntmps315
     go_wp2
     go_ret
     exact⟨rfl,rfl⟩
 · obtain rfl|rfl|rfl|rfl|rfl|rfl|rfl|rfl:c=0∨c=1∨c=2∨c=3∨c=4∨c=5∨c=6∨c=7:=by omega
   all_goals
    clear hc
    go_enter Tryz.func315,Tryz.ntmps315
    go_wp2
    go_ret
    refine⟨Qy ?_,rfl⟩
    simp only[jS]
    simp[k0,k1,k2,k3]
theorem QHR (f c:Int)(h0:0≤f)(h1:f≤255)(w:World) :
 Calls Tryz.prog 170 #[.int .u8 f,.int .i64 c] w fun e w'=>e=.returned (.bool (jS f c))∧Below w.heap.size w w':=by
 by_cases hc:c < 0∨8≤c
 · rw[QHG f c hc]
   have n0:(c==0)=false:=by simp;omega
   have n1:(c==1)=false:=by simp;omega
   have n2:(c==2)=false:=by simp;omega
   have n3:(c==3)=false:=by simp;omega
   have n4:(c==4)=false:=by simp;omega
   have n5:(c==5)=false:=by simp;omega
   have n6:(c==6)=false:=by simp;omega
   have n7:(c==7)=false:=by simp;omega
   clear hc
   go_enter Tryz.func170,Tryz.ntmps170
   go_wp2_with (go_at_call 142;refine (Qn _ h0 h1 _).mono ?_;rintro e w' ⟨rfl,hb⟩;have hsz:=hb.size)
   go_ret
   exact⟨rfl,(by repeat (first|exact Below.refl _ _|assumption|refine Jc ?_ (by assumption)|refine Below.drew ?_|refine Below.alloc ?_ (by first|(simp;done)|(simp;omega)|omega) _|refine Below.setCell ?_ (by first|(simp;done)|(simp;omega)|omega) _))⟩
 · obtain rfl|rfl|rfl|rfl|rfl|rfl|rfl|rfl:c=0∨c=1∨c=2∨c=3∨c=4∨c=5∨c=6∨c=7:=by omega
   all_goals
    clear hc
    go_enter Tryz.func170,Tryz.ntmps170
    go_wp2_with (go_at_call 142;refine (Qn _ h0 h1 _).mono ?_;rintro e w' ⟨rfl,hb⟩;have hsz:=hb.size)
    go_ret
    exact⟨rfl,(by repeat (first|exact Below.refl _ _|assumption|refine Jc ?_ (by assumption)|refine Below.drew ?_|refine Below.alloc ?_ (by first|(simp;done)|(simp;omega)|omega) _|refine Below.setCell ?_ (by first|(simp;done)|(simp;omega)|omega) _))⟩
theorem QKy:∀ x:Fin 256,x.val≠0→bits .and .u8 (x.val:Int) 168=JD (x.val:Int):=by decide +kernel
theorem QLt (r:Int)(h0:0≤r)(h1:r≤255)(h:r≠0):bits .and .u8 r 168=JD r:=by
 have:=QKy ⟨r.toNat,by omega⟩ (by simp;omega)
 simpa [Int.toNat_of_nonneg h0] using this
theorem jl (r:Int)(h0:0≤r)(h1:r≤255)(w:World) :
 Calls Tryz.prog 322 #[.int .u8 r] w fun e w'=>e=.returned (.int .u8 (JD r))∧w=w':=by
 by_cases h:r=0
 · subst h
   go_enter Tryz.func322,Tryz.ntmps322
   go_wp2
   go_ret
   exact⟨Qo (by decide +kernel),rfl⟩
 · have H:=Lib.hid (QLt r h0 h1 h)
   have n0:(r==0)=false:=by simp;omega
   clear h
   go_enter Tryz.func322,Tryz.ntmps322
   go_wp2
   go_ret
   exact⟨Qo H.out,rfl⟩
theorem j7 (r:Int)(h0:0≤r)(h1:r≤255)(w:World) :
 Calls Tryz.prog 156 #[.int .u8 r] w fun e w'=>e=.returned (.int .u8 (JD r))∧Below w.heap.size w w':=by
 go_enter Tryz.func156,Tryz.ntmps156
 go_wp2_with (first|(go_at_call 142;refine (Qn _ h0 h1 _).mono ?_;rintro e w' ⟨rfl,hb⟩;have hsz:=hb.size)|(go_at_call 144;refine (QK _ _ _ _ _ _ _ _ _).mono ?_;rintro e w' ⟨rfl,hb⟩;have hsz:=hb.size))
 go_ret
 exact⟨rfl,(by repeat (first|exact Below.refl _ _|assumption|refine Jc ?_ (by assumption)|refine Below.drew ?_|refine Below.alloc ?_ (by first|(simp;done)|(simp;omega)|omega) _|refine Below.setCell ?_ (by first|(simp;done)|(simp;omega)|omega) _))⟩
theorem QQ7:∀ x:Fin 256,Js (x.val:Int)=if qG (x.val:Int) then bits .or .u8 (JD (x.val:Int)) 4 else JD (x.val:Int):=by decide +kernel
theorem QPM (r:Int)(h0:0≤r)(h1:r≤255):Js r=if qG r then bits .or .u8 (JD r) 4 else JD r :=
 QI (P:=fun r=>Js r=if qG r then bits .or .u8 (JD r) 4 else JD r) QQ7 r h0 h1
theorem Zf (r:Int)(h0:0≤r)(h1:r≤255)(w:World) :
 Calls Tryz.prog 270 #[.int .u8 r] w fun e w'=>e=.returned (.int .u8 (Js r))∧Below w.heap.size w w':=by
 have H:=Lib.hid (QPM r h0 h1)
 cases he:qG r
 all_goals
  go_enter Tryz.func270,Tryz.ntmps270
  go_wp2_with (first|(go_at_call 322;refine (jl _ h0 h1 _).mono ?_;rintro e w' ⟨rfl,rfl⟩)|(go_at_call 323;refine (QJW _ h0 h1 _).mono ?_;rintro e w' ⟨rfl,hb⟩;have hsz:=hb.size))
  go_ret
  exact⟨Qo (by rw[H.out,he];simp),(by repeat (first|exact Below.refl _ _|assumption|refine Jc ?_ (by assumption)|refine Below.drew ?_|refine Below.alloc ?_ (by first|(simp;done)|(simp;omega)|omega) _|refine Below.setCell ?_ (by first|(simp;done)|(simp;omega)|omega) _))⟩
theorem Zb (r:Int)(h0:0≤r)(h1:r≤255)(w:World) :
 Calls Tryz.prog 93 #[.int .u8 r] w fun e w'=>e=.returned (.int .u8 (Js r))∧Below w.heap.size w w':=by
 go_enter Tryz.func93,Tryz.ntmps93
 go_wp2_with (first|(go_at_call 142;refine (Qn _ h0 h1 _).mono ?_;rintro e w' ⟨rfl,hb⟩;have hsz:=hb.size)|(go_at_call 143;refine (QGu _ h0 h1 _).mono ?_;rintro e w' ⟨rfl,rfl⟩)|(go_at_call 144;refine (QK _ _ _ _ _ _ _ _ _).mono ?_;rintro e w' ⟨rfl,hb⟩;have hsz:=hb.size))
 go_ret
 exact⟨rfl,(by repeat (first|exact Below.refl _ _|assumption|refine Jc ?_ (by assumption)|refine Below.drew ?_|refine Below.alloc ?_ (by first|(simp;done)|(simp;omega)|omega) _|refine Below.setCell ?_ (by first|(simp;done)|(simp;omega)|omega) _))⟩
def ArrIs (w:World)(A n:Nat)(v:Nat→Value):Prop:=∀ j,j < n→w.cell? ⟨A,j,none⟩=some (v j)∧w.frozen? ⟨A,j,none⟩=false
theorem ArrIs.lt {w:World} {A n:Nat} {v:Nat→Value}(h:ArrIs w A n v)(hn:0 < n):A < w.heap.size:=World.block_lt_of_cell? _ _ (h 0 hn).1
theorem ArrIs.below {w w':World} {A n B:Nat} {v:Nat→Value}(h:ArrIs w A n v)(k:Below B w w')(hB:A < B):ArrIs w' A n v :=
 fun j hj=>⟨(k.cell (p:=⟨A,j,none⟩) hB).trans (h j hj).1,(k.frozen (p:=⟨A,j,none⟩) hB).trans (h j hj).2⟩
theorem ArrIs.kept {w w':World} {A n:Nat} {v:Nat→Value}(h:ArrIs w A n v)(k:Below w.heap.size w w'):ArrIs w' A n v :=
 fun j hj=>h.below k (World.block_lt_of_cell? _ _ (h j hj).1) j hj
theorem ArrIs.alloc {w:World} {A n:Nat} {v:Nat→Value}(h:ArrIs w A n v)(o:Obj):ArrIs (w.alloc o) A n v :=
 h.kept ((Below.refl _ w).alloc (Nat.le_refl _) o)
theorem ArrIs.set {w:World} {A n k:Nat} {v:Nat→Value}(h:ArrIs w A n v)(u:Value)(hk:k < n):ArrIs (w.setCell ⟨A,k,none⟩ u) A n (fun j=>if j=k then u else v j):=by
 intro j hj
 by_cases e:j=k
 · subst e
   simp only[if_true,World.frozen?_setCell]
   exact⟨World.cell?_setCell_same _ _ _ (h j hj).1,(h j hj).2⟩
 · simp only[if_neg e,World.frozen?_setCell]
   refine⟨(World.cell?_setCell_other _ _ _ _ ?_).trans (h j hj).1,(h j hj).2⟩
   intro c
   injection c with _ c2
   exact e c2.symm
theorem ArrIs.congr {w:World} {A n:Nat} {v u:Nat→Value}(h:ArrIs w A n v)(e:∀ j,j < n→v j=u j):ArrIs w A n u :=
 fun j hj=>⟨by rw[←e j hj];exact (h j hj).1,(h j hj).2⟩
theorem ArrIs.new (w:World)(cs:Array Value)(t:TypeId)(lo hi:Nat)(v:Nat→Value)(n:Nat)(hn:n≤lo∨hi=0)(hv:∀ j,j < n→cs[j]?=some (v j)):ArrIs (w.alloc (.cells cs t (lo,hi))) w.heap.size n v:=by
 intro j hj
 have e:(w.alloc (.cells cs t (lo,hi))).heap[w.heap.size]?=some (.cells cs t (lo,hi)):=by
  show (w.heap.push _)[w.heap.size]?=_
  simp
 constructor
 · simp only[World.cell?,e]
   simpa using hv j hj
 · simp only[World.frozen?,e]
   rcases hn with h|h
   · rw[decide_eq_false (by omega)];rfl
   · rw[h];simp
theorem QOl (P:Nat→Prop)(h:P 0∧P 1∧P 2∧P 3∧P 4∧P 5∧P 6∧P 7)(n:Nat)(hn:n < 8):P n:=by
 obtain⟨h0,h1,h2,h3,h4,h5,h6,h7⟩:=h
 match n,hn with
 | 0,_=>exact h0
 | 1,_=>exact h1
 | 2,_=>exact h2
 | 3,_=>exact h3
 | 4,_=>exact h4
 | 5,_=>exact h5
 | 6,_=>exact h6
 | 7,_=>exact h7
theorem QMc (b0 b1 b2 b3 b4 b5 b6 b7:Bool)(n:Nat)(hn:n < 8):isM (mkM b0 b1 b2 b3 b4 b5 b6 b7) (n:Int)=[b7,b6,b5,b4,b3,b2,b1,b0].getD n false:=by
 obtain⟨h0,h1,h2,h3,h4,h5,h6,h7⟩:=ZE b0 b1 b2 b3 b4 b5 b6 b7
 exact QOl (fun n=>isM (mkM b0 b1 b2 b3 b4 b5 b6 b7) (n:Int)=[b7,b6,b5,b4,b3,b2,b1,b0].getD n false) ⟨h7,h6,h5,h4,h3,h2,h1,h0⟩ n hn
theorem QO4 (f o m:Int)(h0:0≤f)(h1:f≤255)(h2:0≤o)(h3:o≤255)(h4:0≤m)(h5:m≤255) :
 bits .or .u8 (bits .andNot .u8 f m) (bits .and .u8 o m)=Xo f o m:=by
 have a:=QI6 f m h0 h1 h4 h5
 have b:=QCf o m h2 h3 h4 h5
 have c:=QIS _ _ a.1 a.2 b.1 b.2
 have d:=QK1 f o m
 refine QKH _ _ c.1 c.2 d.1 d.2 fun n hn=>?_
 rw[QOm _ _ n hn a.1 a.2 b.1 b.2,QKl _ _ n hn h0 h1 h4 h5,QEa _ _ n hn h2 h3 h4 h5]
 unfold Xo
 rw[QMc _ _ _ _ _ _ _ _ n hn]
 refine QOl (fun n=>((isM f n&&!isM m n)||(isM o n&&isM m n))=[_,_,_,_,_,_,_,_].getD n false) ?_ n hn
 simp only[List.getD_cons_zero,List.getD_cons_succ,sel]
 refine⟨?_,?_,?_,?_,?_,?_,?_,?_⟩
 · cases isM m 0<;>simp
 · cases isM m 1<;>simp
 · cases isM m 2<;>simp
 · cases isM m 3<;>simp
 · cases isM m 4<;>simp
 · cases isM m 5<;>simp
 · cases isM m 6<;>simp
 · cases isM m 7<;>simp
theorem ZV (f o m:Int)(h0:0≤f)(h1:f≤255)(h2:0≤o)(h3:o≤255)(h4:0≤m)(h5:m≤255)(w:World) :
 Calls Tryz.prog 273 #[.int .u8 f,.int .u8 o,.int .u8 m] w fun e w'=>e=.returned (.int .u8 (Xo f o m))∧w=w':=by
 have H:=Lib.hid (QO4 f o m h0 h1 h2 h3 h4 h5)
 go_enter Tryz.func273,Tryz.ntmps273
 go_wp2
 go_ret
 exact⟨Qo H.out,rfl⟩
def fl (f:Int)(j:Nat):Bool:=isM f (7-(j:Int))
def kept (f o m:Int)(k j:Nat):Bool:=if j < k then sel (fl m j) (fl f j) (fl o j) else fl f j
def one (c:Bool):Int:=if c then 1 else 0
theorem Q1 (c:Bool):0≤one c∧one c≤1:=by cases c<;>decide
def QBI (n:Int):Bool:=decide (n < -128)||decide (127 < n)
def XW (a b:Int)(c:Bool):Int:=(a+b+one c)%256
def XX (a b:Int)(c:Bool):Int :=
 mkM (isM (XW a b c) 7) (XW a b c==0) (isM (XW a b c) 5) (decide (15 < a%16+b%16+one c)) (isM (XW a b c) 3) (QBI (JR a+JR b+one c)) false (decide (255 < a+b+one c))
def QX (a b:Int)(c:Bool):Int:=(a-b-one c)%256
def QM (a b:Int)(c:Bool):Int :=
 mkM (isM (QX a b c) 7) (QX a b c==0) (isM (QX a b c) 5) (decide (a%16-b%16-one c < 0)) (isM (QX a b c) 3) (QBI (JR a-JR b-one c)) true (decide (a-b-one c < 0))
def QET (a b:Int):Int :=
 mkM (isM (QX a b false) 7) (QX a b false==0) (isM b 5) (decide (a%16-b%16-one false < 0)) (isM b 3) (QBI (JR a-JR b-one false)) true (decide (a-b-one false < 0))
def QEN (a f:Int):Int :=
 mkM (isM (XW a 1 false) 7) (XW a 1 false==0) (isM (XW a 1 false) 5) (decide (15 < a%16+1%16+one false)) (isM (XW a 1 false) 3) (QBI (JR a+JR 1+one false)) false (isM f 0)
def QEL (a f:Int):Int :=
 mkM (isM (QX a 1 false) 7) (QX a 1 false==0) (isM (QX a 1 false) 5) (decide (a%16-1%16-one false < 0)) (isM (QX a 1 false) 3) (QBI (JR a-JR 1-one false)) true (isM f 0)
theorem QV (a b:Int)(c:Bool):B8 (XW a b c):=by unfold XW B8;omega
theorem QA (a b:Int)(c:Bool):B8 (QX a b c):=by unfold QX B8;omega
theorem XE (a b:Int)(c:Bool):B8 (XX a b c):=Qj ..
theorem QG (a b:Int)(c:Bool):B8 (QM a b c):=Qj ..
theorem QBf (a b:Int):B8 (QET a b):=Qj ..
theorem QBi (a b:Int):B8 (QEN a b):=Qj ..
theorem QB3 (a b:Int):B8 (QEL a b):=Qj ..
def cK (a b:Int)(c:Bool)(k:Nat):Bool:=decide (2 ^ k≤a%2 ^ k+b%2 ^ k+one c)
theorem QRH (a b:Int)(c:Bool):cK a b c 0=c:=by
 unfold cK one
 cases c<;>simp<;>omega
theorem QRo (a b:Int)(c:Bool)(k:Nat)(hk:k < 8):cK a b c (k+1)=if cK a b c k then (isM a k||isM b k) else (isM a k&&isM b k):=by
 have key:=Q1 c
 refine QOl (fun k=>cK a b c (k+1)=if cK a b c k then (isM a k||isM b k) else (isM a k&&isM b k)) ?_ k hk
 unfold cK isM
 generalize one c=o at key ⊢
 refine⟨?_,?_,?_,?_,?_,?_,?_,?_⟩
 all_goals
  rw[Bool.eq_iff_iff]
  simp
  split<;>omega
def zV (a b:Int)(c:Bool):Nat→Int
 | 0=>0
 | k+1=>if cK a b c (k+1) then JO (zV a b c k) k true else zV a b c k
theorem QB5 (a b:Int)(c:Bool):∀ k,B8 (zV a b c k)
 | 0=>B8.zero
 | k+1=>by
   unfold zV
   split
   · exact (QB5 a b c k).with _ _
   · exact QB5 a b c k
theorem QN1:∀ c1 c2 c3 c4 c5 c6 c7 c8:Bool,
 let w:=fun (x:Int) (k:Int) (c:Bool)=>if c then JO x k true else x
 let o:=w (w (w (w (w (w (w (w 0 0 c1) 1 c2) 2 c3) 3 c4) 4 c5) 5 c6) 6 c7) 7 c8
 isM o 3=c4∧isM o 6=c7∧isM o 7=c8:=by decide +kernel
theorem QQO (a b:Int)(c:Bool):isM (zV a b c 8) 3=cK a b c 4∧isM (zV a b c 8) 6=cK a b c 7∧isM (zV a b c 8) 7=cK a b c 8 :=
 QN1 (cK a b c 1) (cK a b c 2) (cK a b c 3) (cK a b c 4) (cK a b c 5) (cK a b c 6) (cK a b c 7) (cK a b c 8)
theorem QSI (a b:Int)(c:Bool)(ha:B8 a)(hb:B8 b):cK a b c 4=decide (15 < a%16+b%16+one c)∧cK a b c 8=decide (255 < a+b+one c)∧(cK a b c 7 != cK a b c 8)=QBI (JR a+JR b+one c):=by
 obtain⟨a0,a1⟩:=ha
 obtain⟨b0,b1⟩:=hb
 have key:=Q1 c
 unfold cK QBI JR
 generalize one c=o at key ⊢
 refine⟨?_,?_,?_⟩
 · rw[Bool.eq_iff_iff];simp;omega
 · rw[Bool.eq_iff_iff];simp;omega
 · rw[Bool.eq_iff_iff]
   simp
   split<;>split<;>omega
def W16 (x:Int):Prop:=0≤x∧x≤65535
theorem W16.lo {x:Int}(h:W16 x):0≤x:=h.1
theorem W16.hi {x:Int}(h:W16 x):x≤65535:=h.2
theorem W16.low {x:Int}(h:W16 x):B8 (x%256):=by unfold B8;omega
theorem W16.high {x:Int}(h:W16 x):B8 (x / 256):=by obtain⟨h0,h1⟩:=h;unfold B8;omega
def XB (w:Int):Int:=if w < 32768 then w else w-65536
def QJi (n:Int):Bool:=decide (n < -32768)||decide (32767 < n)
def ZK (a b:Int)(c:Bool):Int:=(a+b+one c)%65536
def qK (a b:Int)(c:Bool):Int:=(a-b-one c)%65536
def QHU (r:Int)(half over minus out:Bool):Int :=
 mkM (isM (r / 256) 7) (r==0) (isM (r / 256) 5) half (isM (r / 256) 3) over minus out
def QAQ (a b:Int)(c:Bool):Int :=
 QHU (ZK a b c) (decide (4095 < a%4096+b%4096+one c)) (QJi (XB a+XB b+one c)) false (decide (65535 < a+b+one c))
def QA4 (a b:Int)(c:Bool):Int :=
 QHU (qK a b c) (decide (a%4096-b%4096-one c < 0)) (QJi (XB a-XB b-one c)) true (decide (a-b-one c < 0))
def QDA (a b f:Int):Int :=
 mkM (isM f 7) (isM f 6) (isM (ZK a b false / 256) 5) (decide (4095 < a%4096+b%4096)) (isM (ZK a b false / 256) 3) (isM f 2) false (decide (65535 < a+b))
def JA (w y:Int):Int:=(w+y)%65536
theorem QHV (a b:Int)(c:Bool):W16 (ZK a b c):=by unfold ZK W16;omega
theorem QMy (a b:Int)(c:Bool):W16 (qK a b c):=by unfold qK W16;omega
theorem QDJ (a b:Int)(c:Bool):B8 (QAQ a b c):=Qj ..
theorem QG1 (a b:Int)(c:Bool):B8 (QA4 a b c):=Qj ..
theorem QEv (a b f:Int):B8 (QDA a b f):=Qj ..
def QCd (a b:Int)(c:Bool):Bool:=isM (XX (a%256) (b%256) c) 0
def QC8 (a b:Int)(c:Bool):Bool:=isM (QM (a%256) (b%256) c) 0
theorem QFk (a b:Int)(c:Bool):isM (XX a b c) 0=decide (255 < a+b+one c):=(ZE _ _ _ _ _ _ _ _).2.2.2.2.2.2.2
theorem QFY (a b:Int)(c:Bool):isM (QM a b c) 0=decide (a-b-one c < 0):=(ZE _ _ _ _ _ _ _ _).2.2.2.2.2.2.2
theorem QEY (p:Prop) [Decidable p]:one (decide p)=if p then 1 else 0:=by unfold one;by_cases h:p<;>simp[h]
theorem QTP (x0 x1 x2 x3 x4 x5 x6 x7:Bool)(f:Int):Xo (mkM x0 x1 x2 x3 x4 x5 x6 x7) f 64=mkM x0 (isM f 6) x2 x3 x4 x5 x6 x7:=by
 unfold Xo
 obtain⟨h0,h1,h2,h3,h4,h5,h6,h7⟩:=ZE x0 x1 x2 x3 x4 x5 x6 x7
 obtain⟨z0,z1,z2,z3,z4,z5,z6,z7⟩:isM 64 0=false∧isM 64 1=false∧isM 64 2=false∧isM 64 3=false∧isM 64 4=false∧isM 64 5=false∧isM 64 6=true∧isM 64 7=false:=by decide +kernel
 rw[h0,h1,h2,h3,h4,h5,h6,h7,z0,z1,z2,z3,z4,z5,z6,z7]
 rfl
theorem QS6 (x0 x1 x2 x3 x4 x5 x6 x7:Bool)(f:Int):Xo (mkM x0 x1 x2 x3 x4 x5 x6 x7) f 196=mkM (isM f 7) (isM f 6) x2 x3 x4 (isM f 2) x6 x7:=by
 unfold Xo
 obtain⟨h0,h1,h2,h3,h4,h5,h6,h7⟩:=ZE x0 x1 x2 x3 x4 x5 x6 x7
 obtain⟨z0,z1,z2,z3,z4,z5,z6,z7⟩:isM 196 0=false∧isM 196 1=false∧isM 196 2=true∧isM 196 3=false∧isM 196 4=false∧isM 196 5=false∧isM 196 6=true∧isM 196 7=true:=by decide +kernel
 rw[h0,h1,h2,h3,h4,h5,h6,h7,z0,z1,z2,z3,z4,z5,z6,z7]
 rfl
theorem QKe (a b:Int)(c:Bool)(ha:W16 a)(hb:W16 b):256*XW (a / 256) (b / 256) (QCd a b c)+XW (a%256) (b%256) c=ZK a b c:=by
 obtain⟨a0,a1⟩:=ha
 obtain⟨b0,b1⟩:=hb
 have key:=Q1 c
 unfold QCd
 rw[QFk]
 unfold XW ZK
 rw[QEY]
 split<;>omega
theorem QKS (a b:Int)(c:Bool)(ha:W16 a)(hb:W16 b):256*QX (a / 256) (b / 256) (QC8 a b c)+QX (a%256) (b%256) c=qK a b c:=by
 obtain⟨a0,a1⟩:=ha
 obtain⟨b0,b1⟩:=hb
 have key:=Q1 c
 unfold QC8
 rw[QFY]
 unfold QX qK
 rw[QEY]
 split<;>omega
theorem QTb (x y:Int)(hx:B8 x)(hy:B8 y):(x==0&&y==0)=(256*x+y==0):=by
 obtain⟨x0,x1⟩:=hx
 obtain⟨y0,y1⟩:=hy
 rw[Bool.eq_iff_iff];simp;omega
theorem QNy (a b:Int)(c:Bool)(ha:W16 a)(hb:W16 b) :
 Xo (XX (a / 256) (b / 256) (QCd a b c)) (bits .and .u8 (XX (a / 256) (b / 256) (QCd a b c)) (XX (a%256) (b%256) c)) 64=QAQ a b c:=by
 have hw:=QKe a b c ha hb
 have r1:=QV (a / 256) (b / 256) (QCd a b c)
 have r2:=QV (a%256) (b%256) c
 have z:isM (bits .and .u8 (XX (a / 256) (b / 256) (QCd a b c)) (XX (a%256) (b%256) c)) 6=(ZK a b c==0):=by
  rw[←hw,←QTb _ _ r1 r2]
  have f1:=XE (a / 256) (b / 256) (QCd a b c)
  have f2:=XE (a%256) (b%256) c
  have:=QEa _ _ 6 (by omega) f1.1 f1.2 f2.1 f2.2
  rw[show ((6:Nat):Int)=6 from rfl] at this
  rw[this]
  exact congr (congrArg _ (ZE _ _ _ _ _ _ _ _).2.1) (ZE _ _ _ _ _ _ _ _).2.1
 have hh:XW (a / 256) (b / 256) (QCd a b c)=ZK a b c / 256:=by
  obtain⟨x0,x1⟩:=r2
  rw[←hw];omega
 generalize bits .and .u8 (XX (a / 256) (b / 256) (QCd a b c)) (XX (a%256) (b%256) c)=y at z ⊢
 unfold XX
 rw[QTP,z,hh]
 unfold QAQ QHU
 obtain⟨a0,a1⟩:=ha
 obtain⟨b0,b1⟩:=hb
 have key:=Q1 c
 have m:one (QCd a b c)=if 255 < a%256+b%256+one c then 1 else 0:=by unfold QCd;rw[QFk,QEY]
 have n4:decide (15 < a / 256%16+b / 256%16+one (QCd a b c))=decide (4095 < a%4096+b%4096+one c):=by
  rw[m,Bool.eq_iff_iff];simp;split<;>omega
 have n8:decide (255 < a / 256+b / 256+one (QCd a b c))=decide (65535 < a+b+one c):=by
  rw[m,Bool.eq_iff_iff];simp;split<;>omega
 have n7:QBI (JR (a / 256)+JR (b / 256)+one (QCd a b c))=QJi (XB a+XB b+one c):=by
  unfold QBI QJi JR XB
  rw[m,Bool.eq_iff_iff]
  simp
  split<;>split<;>split<;>split<;>split<;>omega
 rw[n4,n8,n7]
theorem QNb (a b:Int)(c:Bool)(ha:W16 a)(hb:W16 b) :
 Xo (QM (a / 256) (b / 256) (QC8 a b c)) (bits .and .u8 (QM (a / 256) (b / 256) (QC8 a b c)) (QM (a%256) (b%256) c)) 64=QA4 a b c:=by
 have hw:=QKS a b c ha hb
 have r1:=QA (a / 256) (b / 256) (QC8 a b c)
 have r2:=QA (a%256) (b%256) c
 have z:isM (bits .and .u8 (QM (a / 256) (b / 256) (QC8 a b c)) (QM (a%256) (b%256) c)) 6=(qK a b c==0):=by
  rw[←hw,←QTb _ _ r1 r2]
  have f1:=QG (a / 256) (b / 256) (QC8 a b c)
  have f2:=QG (a%256) (b%256) c
  have:=QEa _ _ 6 (by omega) f1.1 f1.2 f2.1 f2.2
  rw[show ((6:Nat):Int)=6 from rfl] at this
  rw[this]
  exact congr (congrArg _ (ZE _ _ _ _ _ _ _ _).2.1) (ZE _ _ _ _ _ _ _ _).2.1
 have hh:QX (a / 256) (b / 256) (QC8 a b c)=qK a b c / 256:=by
  obtain⟨x0,x1⟩:=r2
  rw[←hw];omega
 generalize bits .and .u8 (QM (a / 256) (b / 256) (QC8 a b c)) (QM (a%256) (b%256) c)=y at z ⊢
 unfold QM
 rw[QTP,z,hh]
 unfold QA4 QHU
 obtain⟨a0,a1⟩:=ha
 obtain⟨b0,b1⟩:=hb
 have key:=Q1 c
 have m:one (QC8 a b c)=if a%256-b%256-one c < 0 then 1 else 0:=by unfold QC8;rw[QFY,QEY]
 have n4:decide (a / 256%16-b / 256%16-one (QC8 a b c) < 0)=decide (a%4096-b%4096-one c < 0):=by
  rw[m,Bool.eq_iff_iff];simp;split<;>omega
 have n8:decide (a / 256-b / 256-one (QC8 a b c) < 0)=decide (a-b-one c < 0):=by
  rw[m,Bool.eq_iff_iff];simp;split<;>omega
 have n7:QBI (JR (a / 256)-JR (b / 256)-one (QC8 a b c))=QJi (XB a-XB b-one c):=by
  unfold QBI QJi JR XB
  rw[m,Bool.eq_iff_iff]
  simp
  split<;>split<;>split<;>split<;>split<;>omega
 rw[n4,n8,n7]
theorem QN8 (a b f:Int):Xo (QAQ a b false) f 196=QDA a b f:=by
 unfold QAQ QHU
 rw[QS6]
 have o:one false=0:=rfl
 unfold QDA
 rw[o,Int.add_zero,Int.add_zero]
def QDS (op:Bool→Bool→Bool)(a b:Int):Int :=
 mkM (op (isM a 7) (isM b 7)) (op (isM a 6) (isM b 6)) (op (isM a 5) (isM b 5)) (op (isM a 4) (isM b 4)) (op (isM a 3) (isM b 3)) (op (isM a 2) (isM b 2)) (op (isM a 1) (isM b 1)) (op (isM a 0) (isM b 0))
theorem J7 (op:Bool→Bool→Bool)(a b:Int):B8 (QDS op a b):=Qj ..
def upM (b0 b1 b2 b3 b4 b5 b6 b7:Bool):Int :=
 JO (JO (JO (JO (JO (JO (JO (JO 0 0 b0) 1 b1) 2 b2) 3 b3) 4 b4) 5 b5) 6 b6) 7 b7
theorem QJV:∀ b0 b1 b2 b3 b4 b5 b6 b7:Bool,upM b0 b1 b2 b3 b4 b5 b6 b7=mkM b7 b6 b5 b4 b3 b2 b1 b0:=by decide +kernel
def QLf (x y:Bool):Bool:=x&&y
def orB (x y:Bool):Bool:=x||y
def QGp (x y:Bool):Bool:=x != y
def zB (a b:Int):Int:=QDS QLf a b
def orR (a b:Int):Int:=QDS orB a b
def jB (a b:Int):Int:=QDS QGp a b
def zN (r:Int):Int:=mkM (isM r 7) (r==0) (isM r 5) true (isM r 3) (qG r) false false
theorem QAg (r:Int):B8 (zN r):=Qj ..
theorem QM2:∀ x:Fin 256,bits .or .u8 (Js (x.val:Int)) 16=zN (x.val:Int):=by decide +kernel
theorem QNl (r:Int)(h:B8 r):bits .or .u8 (Js r) 16=zN r:=QI (P:=fun r=>bits .or .u8 (Js r) 16=zN r) QM2 r h.1 h.2
theorem QKs (r:Int)(h:B8 r):JO (Js r) 4 true=zN r :=
 QI (P:=fun r=>JO (Js r) 4 true=zN r) (by decide +kernel) r h.1 h.2
def Ze (f a:Int)(h n c:Bool):Int:=mkM (isM f 7) (isM f 6) (isM a 5) h (isM a 3) (isM f 2) n c
theorem Qm (f a:Int)(h n c:Bool):B8 (Ze f a h n c):=Qj ..
def QFL (a f:Int):Int:=Ze f (255-a) true true (isM f 0)
def QDo (a f:Int):Int:=Ze f a false false true
def QDO (a f:Int):Int:=Ze f a (isM f 0) false (!isM f 0)
theorem QBg (b f:Int):Xo (JD b) f 196=Ze f b false false false:=by
 obtain⟨z0,z1,z2,z3,z4,z5,z6,z7⟩:isM 196 0=false∧isM 196 1=false∧isM 196 2=true∧isM 196 3=false∧isM 196 4=false∧isM 196 5=false∧isM 196 6=true∧isM 196 7=true:=by decide +kernel
 obtain⟨e7,e6,e5,e4,e3,e2,e1,e0⟩:isM (JD b) 7=_∧isM (JD b) 6=_∧isM (JD b) 5=_∧isM (JD b) 4=_∧isM (JD b) 3=_∧isM (JD b) 2=_∧isM (JD b) 1=_∧isM (JD b) 0=_:=ZE _ _ _ _ _ _ _ _
 unfold Xo Ze
 rw[z0,z1,z2,z3,z4,z5,z6,z7,e0,e1,e3,e4,e5]
 rfl
theorem QHZ:∀ b0 b1 b2 b3 b4 b5 b6 b7:Bool,bits .or .u8 (mkM b0 b1 b2 b3 b4 b5 b6 b7) 1=mkM b0 b1 b2 b3 b4 b5 b6 true∧bits .or .u8 (mkM b0 b1 b2 b3 b4 b5 b6 b7) 16=mkM b0 b1 b2 true b4 b5 b6 b7∧bits .or .u8 (mkM b0 b1 b2 b3 b4 b5 b6 b7) 2=mkM b0 b1 b2 b3 b4 b5 true b7∧bits .or .u8 (mkM b0 b1 b2 b3 b4 b5 b6 b7) 0=mkM b0 b1 b2 b3 b4 b5 b6 b7:=by decide +kernel
theorem QSc:∀ x:Fin 256,bits .and .u8 (x.val:Int) 1=one (isM (x.val:Int) 0):=by decide +kernel
theorem QAp (f:Int)(h:B8 f):bits .and .u8 f 1=one (isM f 0):=QI (P:=fun f=>bits .and .u8 f 1=one (isM f 0)) QSc f h.1 h.2
theorem or_one (b0 b1 b2 b3 b4 b5 b6 c:Bool):bits .or .u8 (mkM b0 b1 b2 b3 b4 b5 b6 false) (one c)=mkM b0 b1 b2 b3 b4 b5 b6 c:=by
 cases c
 · exact (QHZ b0 b1 b2 b3 b4 b5 b6 false).2.2.2
 · exact (QHZ b0 b1 b2 b3 b4 b5 b6 false).1
theorem QQo (a f:Int)(hf:B8 f):bits .or .u8 (bits .or .u8 (bits .or .u8 (Xo (JD (255-a)) f 196) (bits .and .u8 f 1)) 16) 2=QFL a f:=by
 rw[QBg,QAp f hf]
 unfold Ze QFL Ze
 rw[or_one,(QHZ _ _ _ _ _ _ _ _).2.1,(QHZ _ _ _ _ _ _ _ _).2.2.1]
theorem QPn (a f:Int):bits .or .u8 (Xo (JD a) f 196) 1=QDo a f:=by
 rw[QBg]
 unfold Ze QDo Ze
 rw[(QHZ _ _ _ _ _ _ _ _).1]
theorem QUp (a f:Int)(h:isM f 0=false):QDo a f=QDO a f:=by
 unfold QDo QDO
 rw[h]
 rfl
theorem QR2 (a f:Int)(h:isM f 0=true):bits .or .u8 (Xo (JD a) f 196) 16=QDO a f:=by
 rw[QBg]
 unfold Ze QDO Ze
 rw[h,(QHZ _ _ _ _ _ _ _ _).2.1]
 rfl
def QFF (a f:Int):Bool:=isM f 4||decide (9 < a%16)
def QAU (a f:Int):Bool:=isM f 0||decide (153 < a)
def byM (a f:Int):Int:=(if QFF a f then 6 else 0)+(if QAU a f then 96 else 0)
def Xq (a f:Int):Int:=if isM f 1 then (a-byM a f)%256 else (a+byM a f)%256
def QEK (a f:Int):Int :=
 mkM (isM (Xq a f) 7) (Xq a f==0) (isM (Xq a f) 5) (isM a 4 != isM (Xq a f) 4) (isM (Xq a f) 3) (qG (Xq a f)) (isM f 1) (QAU a f)
theorem jq (a f:Int):B8 (Xq a f):=by unfold Xq B8;split<;>omega
theorem QBP (a f:Int):B8 (QEK a f):=Qj ..
theorem QOh (a f:Int):0≤byM a f∧byM a f≤102:=by unfold byM;split<;>split<;>omega
def inM (kind b f:Int):Bool :=
 if kind=0 then isM b 7 else if kind=1 then isM b 0 else if kind=2 then isM f 0 else if kind=3 then isM f 0 else
 if kind=4 then false else if kind=5 then isM b 7 else if kind=6 then true else false
def Zn (kind b:Int):Bool:=if kind%2=0 then isM b 7 else isM b 0
def QM6 (b:Int)(i:Bool):Int:=JO (Xx b 1) 0 i
def QOL (b:Int)(i:Bool):Int:=JO (Xx b (-1)) 7 i
def shM (kind b f:Int):Int:=if kind%2=0 then QM6 b (inM kind b f) else QOL b (inM kind b f)
def doR (kind b f:Int):Int:=if 0≤kind∧kind < 8 then shM kind b f else b
def doF (kind b f:Int):Int:=if 0≤kind∧kind < 8 then JO (Js (shM kind b f)) 0 (Zn kind b) else f
def QCT (kind b f:Int):Int:=if 0≤kind∧kind < 4 then shM kind b f else b
def QCU (kind b f:Int):Int:=if 0≤kind∧kind < 4 then Ze f (shM kind b f) false false (Zn kind b) else f
theorem QAJ (kind b f:Int)(hb:B8 b):B8 (shM kind b f):=by
 unfold shM QM6 QOL
 split
 · exact B8.with (Xj b 1 hb.1 hb.2) _ _
 · exact B8.with (Xj b (-1) hb.1 hb.2) _ _
theorem QAF (kind b f:Int)(hb:B8 b):B8 (doR kind b f):=by
 unfold doR
 split
 · exact QAJ _ _ _ hb
 · exact hb
theorem QCg (kind b f:Int)(hf:B8 f):B8 (doF kind b f):=by
 unfold doF
 split
 · exact B8.with (J4 _) _ _
 · exact hf
theorem QBu (kind b f:Int)(hb:B8 b):B8 (QCT kind b f):=by
 unfold QCT
 split
 · exact QAJ _ _ _ hb
 · exact hb
theorem QBV (kind b f:Int)(hf:B8 f):B8 (QCU kind b f):=by
 unfold QCU
 split
 · exact Qm ..
 · exact hf
def QPm (b:Int):Int:=JO (JO (JO (JO (JO (JO (JO (JO 0 1 (isM b 0)) 2 (isM b 1)) 3 (isM b 2)) 4 (isM b 3)) 5 (isM b 4)) 6 (isM b 5)) 7 (isM b 6)) 8 (isM b 7)
def QLj (b:Int):Int:=JO (JO (JO (JO (JO (JO (JO (JO 0 (-1) (isM b 0)) 0 (isM b 1)) 1 (isM b 2)) 2 (isM b 3)) 3 (isM b 4)) 4 (isM b 5)) 5 (isM b 6)) 6 (isM b 7)
theorem QT0:∀ (x:Fin 256) (i:Bool),JO (QPm (x.val:Int)) 0 i=QM6 (x.val:Int) i∧JO (QLj (x.val:Int)) 7 i=QOL (x.val:Int) i:=by decide +kernel
theorem QPf (b:Int)(hb:B8 b)(i:Bool):JO (QPm b) 0 i=QM6 b i∧JO (QLj b) 7 i=QOL b i :=
 QI (P:=fun b=>JO (QPm b) 0 i=QM6 b i∧JO (QLj b) 7 i=QOL b i) (fun x=>QT0 x i) b hb.1 hb.2
def qO (r:Int)(c:Bool):Int:=JO (Js r) 0 c
theorem zU (r:Int)(c:Bool):B8 (qO r c):=B8.with (J4 r) _ _
theorem mk_c:∀ b0 b1 b2 b3 b4 b5 b6 c:Bool,JO (mkM b0 b1 b2 b3 b4 b5 b6 false) 0 c=mkM b0 b1 b2 b3 b4 b5 b6 c:=by decide +kernel
theorem QIp (r:Int)(c:Bool):bits .or .u8 (Js r) (one c)=qO r c:=by
 unfold qO Js
 rw[or_one,mk_c]
theorem QOi (r f:Int)(c:Bool):bits .or .u8 (Xo (JD r) f 196) (one c)=Ze f r false false c:=by
 rw[QBg]
 unfold Ze
 rw[or_one]
def Z1 (right:Bool)(a b:Int):Int:=a / 16*16+(if right then b%16 else b / 16)
def QEP (right:Bool)(a b:Int):Int:=(if right then a%16 else b%16)*16+(if right then b / 16 else a%16)
theorem Zj (right:Bool)(a b:Int)(ha:B8 a)(hb:B8 b):B8 (Z1 right a b):=by
 have a0:=ha.1;have a1:=ha.2;have b0:=hb.1;have b1:=hb.2
 cases right<;>(simp only[Z1,B8,if_true,if_false,Bool.false_eq_true];omega)
theorem QDM (right:Bool)(a b:Int)(ha:B8 a)(hb:B8 b):B8 (QEP right a b):=by
 have a0:=ha.1;have a1:=ha.2;have b0:=hb.1;have b1:=hb.2
 cases right<;>(simp only[QEP,B8,if_true,if_false,Bool.false_eq_true];omega)
theorem QQe:∀ x:Fin 256,bits .and .u8 (x.val:Int) 15=(x.val:Int)%16∧bits .andNot .u8 (x.val:Int) 15=(x.val:Int) / 16*16:=by decide +kernel
theorem QKE (b:Int)(hb:B8 b):bits .and .u8 b 15=b%16∧bits .andNot .u8 b 15=b / 16*16 :=
 QI (P:=fun b=>bits .and .u8 b 15=b%16∧bits .andNot .u8 b 15=b / 16*16) QQe b hb.1 hb.2
theorem QNh:∀ x y:Fin 16,bits .or .u8 ((x.val:Int)*16) (y.val:Int)=(x.val:Int)*16+(y.val:Int):=by decide +kernel
theorem QBW (x y:Int)(h0:0≤x)(h1:x < 16)(h2:0≤y)(h3:y < 16):bits .or .u8 (x*16) y=x*16+y:=by
 have:=QNh ⟨x.toNat,by omega⟩ ⟨y.toNat,by omega⟩
 simpa [Int.toNat_of_nonneg h0,Int.toNat_of_nonneg h2] using this
def QAm (n b lines f:Int):Int:=mkM ((n==7)&&isM b n) (!isM b n) (isM lines 5) true (isM lines 3) (!isM b n) false (isM f 0)
theorem QAY (n b lines f:Int):B8 (QAm n b lines f):=Qj ..
def QIs (lines f:Int):Int:=mkM false false (isM lines 5) true (isM lines 3) false false (isM f 0)
theorem or16:∀ c:Bool,bits .or .u8 16 (one c)=mkM false false false true false false false c:=by decide +kernel
theorem QQt (lines f:Int)(hf:B8 f):Xo (bits .or .u8 16 (bits .and .u8 f 1)) lines 40=QIs lines f:=by
 obtain⟨z0,z1,z2,z3,z4,z5,z6,z7⟩:isM 40 0=false∧isM 40 1=false∧isM 40 2=false∧isM 40 3=true∧isM 40 4=false∧isM 40 5=true∧isM 40 6=false∧isM 40 7=false:=by decide +kernel
 rw[QAp f hf,or16]
 obtain⟨e7,e6,e5,e4,e3,e2,e1,e0⟩:=ZE false false false true false false false (isM f 0)
 unfold Xo QIs
 rw[z0,z1,z2,z3,z4,z5,z6,z7,e0,e1,e2,e4,e6,e7]
 rfl
theorem QOd:∀ y x c:Bool,bits .or .u8 (bits .or .u8 (mkM false false y true x false false c) 64) 4=mkM false true y true x true false c∧bits .or .u8 (mkM false false y true x false false c) 128=mkM true false y true x false false c:=by decide +kernel
theorem QU0 (n b lines f:Int)(h:isM b n=false):bits .or .u8 (bits .or .u8 (QIs lines f) 64) 4=QAm n b lines f:=by
 unfold QAm QIs
 rw[h,(QOd _ _ _).1]
 simp
theorem QOM (b lines f:Int)(h:isM b 7=true):bits .or .u8 (QIs lines f) 128=QAm 7 b lines f:=by
 unfold QAm QIs
 rw[h,(QOd _ _ _).2]
 rfl
theorem QSJ (n b lines f:Int)(h:isM b n=true)(hn:¬n=7):QIs lines f=QAm n b lines f:=by
 unfold QAm QIs
 rw[h,show (n==7)=false from by simpa using hn]
 rfl
def QFy (a b:Int):Int:=(a+b)%256
theorem QF1 (a b:Int):B8 (QFy a b):=by unfold QFy B8;omega
def lessM (a b:Int):Int:=if isM (QM a b false) 4 then (QX a b false+255)%256 else QX a b false
theorem QFU (a b:Int):B8 (lessM a b):=by
 unfold lessM
 split
 · unfold B8;omega
 · exact QA ..
theorem QHb (a b:Int)(h:isM (QM a b false) 4=true):(QX a b false+255)%256=lessM a b:=by unfold lessM;rw[if_pos h]
theorem QLl (a b:Int)(h:isM (QM a b false) 4=true):(QX a b false-1)%256=lessM a b:=by
 rw[←QHb a b h];omega
theorem QIz (a b:Int)(h:isM (QM a b false) 4=false):QX a b false=lessM a b:=by unfold lessM;rw[if_neg (by simp[h])]
def moveF (a b bc f:Int):Int:=mkM (isM f 7) (isM f 6) (isM (QFy a b) 1) false (isM (QFy a b) 3) (bc != 0) false (isM f 0)
def jD (a b bc f:Int):Int :=
 mkM (isM (QM a b false) 7) (isM (QM a b false) 6) (isM (lessM a b) 1) (isM (QM a b false) 4) (isM (lessM a b) 3) (bc != 0) true (isM f 0)
def Q5 (b k left:Int):Int :=
 mkM (isM left 7) (left==0) (isM left 5) (decide (255 < k)) (isM left 3) (qG (jB (k%8) left)) (isM b 7) (decide (255 < k))
def byC (c s:Int):Int:=(c+s)%256
theorem QJR (c s:Int):B8 (byC c s):=by unfold byC B8;omega
theorem jr (a b bc f:Int):B8 (moveF a b bc f):=Qj ..
theorem jo (a b bc f:Int):B8 (jD a b bc f):=Qj ..
theorem XS (b k left:Int):B8 (Q5 b k left):=Qj ..
def Jn (kind f:Int):Bool :=
 if kind=0 then isM f 2 else if kind=1 then isM f 2&&!isM f 6 else if kind=2 then !isM f 6 else if kind=3 then !isM f 6 else false
theorem QFQ (kind f:Int)(h:kind < 0∨4≤kind):Jn kind f=false:=by
 unfold Jn
 repeat (rw[if_neg (by omega)])
theorem QNL (a b:Int)(ha:B8 a)(hb:B8 b):bits .xor .u8 a b=jB a b:=by
 have q:=QKX a b ha.1 ha.2 hb.1 hb.2
 have r:B8 (jB a b):=J7 ..
 refine QKH _ _ q.1 q.2 r.1 r.2 fun n hn=>?_
 rw[QL8 a b n hn ha.1 ha.2 hb.1 hb.2]
 unfold jB QDS
 rw[QMc _ _ _ _ _ _ _ _ n hn]
 refine QOl (fun n=>(isM a n ^^ isM b n)=[_,_,_,_,_,_,_,_].getD n false) ?_ n hn
 simp only[List.getD_cons_zero,List.getD_cons_succ,QGp]
 exact⟨rfl,rfl,rfl,rfl,rfl,rfl,rfl,rfl⟩
end Go.Proofs.YtkgaeamdhhceiaaGreatDoor
