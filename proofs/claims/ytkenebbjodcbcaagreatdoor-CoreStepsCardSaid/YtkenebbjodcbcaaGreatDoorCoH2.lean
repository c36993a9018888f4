/- Contracts and facts that the claim's proof wants (several texts in one). -/
import Derived.Laws.Rows
import Derived.Below
import Derived.Test.YtkenebbjodcbcaaGreatDoorCoH1
namespace Go.Proofs.YtkenebbjodcbcaaGreatDoor
open Go.RowKit
set_option linter.unusedVariables false
set_option linter.unusedSimpArgs false
set_option maxRecDepth 20000
set_option maxHeartbeats 20000000
theorem Xz (a n:Nat)(h:n < 8):isM (a:Int) (n:Int)=a.testBit n:=by
 have e:(a:Int) / 2 ^ n%2=((a / 2 ^ n%2:Nat):Int):=by simp
 unfold isM
 rw[Nat.testBit_eq_decide_div_mod_eq,decide_eq_true (show (0:Int)≤(n:Int) by omega),decide_eq_true (show (n:Int) < 8 by omega),Int.toNat_natCast,e]
 simp only[Bool.true_and]
 congr 1
 apply propext
 omega
theorem QAL {Q:Int→Int→Prop}(h:∀ a b:Nat,a < 256→b < 256→Q a b)(a b:Int)(h0:0≤a)(h1:a≤255)(h2:0≤b)(h3:b≤255):Q a b:=by
 have:=h a.toNat b.toNat (by omega) (by omega)
 rwa [Int.toNat_of_nonneg h0,Int.toNat_of_nonneg h2] at this
theorem QDw (a b:Int)(n:Nat)(h:n < 8)(h0:0≤a)(h1:a≤255)(h2:0≤b)(h3:b≤255):isM (bits .and .u8 a b) n=(isM a n&&isM b n) :=
 QAL (Q:=fun a b=>isM (bits .and .u8 a b) n=(isM a n&&isM b n)) (fun a b ha hb=>by rw[u8_and_nat a b ha hb,Xz _ _ h,Xz _ _ h,Xz _ _ h,Nat.testBit_and]) a b h0 h1 h2 h3
theorem QOM (a b:Int)(n:Nat)(h:n < 8)(h0:0≤a)(h1:a≤255)(h2:0≤b)(h3:b≤255):isM (bits .or .u8 a b) n=(isM a n||isM b n) :=
 QAL (Q:=fun a b=>isM (bits .or .u8 a b) n=(isM a n||isM b n)) (fun a b ha hb=>by rw[u8_or_nat a b ha hb,Xz _ _ h,Xz _ _ h,Xz _ _ h,Nat.testBit_or]) a b h0 h1 h2 h3
theorem QK2 (a b:Int)(n:Nat)(h:n < 8)(h0:0≤a)(h1:a≤255)(h2:0≤b)(h3:b≤255):isM (bits .xor .u8 a b) n=(isM a n ^^ isM b n) :=
 QAL (Q:=fun a b=>isM (bits .xor .u8 a b) n=(isM a n ^^ isM b n)) (fun a b ha hb=>by rw[u8_xor_nat a b ha hb,Xz _ _ h,Xz _ _ h,Xz _ _ h,Nat.testBit_xor]) a b h0 h1 h2 h3
theorem QOX (b n:Nat)(hb:b < 256)(h:n < 8):(255-b).testBit n=!b.testBit n:=by
 have:=Nat.testBit_two_pow_sub_succ (x:=b) (n:=8) (by omega) n
 rw[show 2 ^ 8-(b+1)=255-b by omega] at this
 simpa [h] using this
theorem QKp (a b:Int)(n:Nat)(h:n < 8)(h0:0≤a)(h1:a≤255)(h2:0≤b)(h3:b≤255):isM (bits .andNot .u8 a b) n=(isM a n&&!isM b n) :=
 QAL (Q:=fun a b=>isM (bits .andNot .u8 a b) n=(isM a n&&!isM b n)) (fun a b ha hb=>by rw[u8_andNot_nat a b ha hb,Xz _ _ h,Xz _ _ h,Xz _ _ h,Nat.testBit_and,QOX b n hb h]) a b h0 h1 h2 h3
theorem QB0 (a b:Int)(h0:0≤a)(h1:a≤255)(h2:0≤b)(h3:b≤255):0≤bits .and .u8 a b∧bits .and .u8 a b≤255 :=
 QAL (Q:=fun a b=>0≤bits .and .u8 a b∧bits .and .u8 a b≤255) (fun a b ha hb=>by rw[u8_and_nat a b ha hb];have:=Nat.and_lt_two_pow (n:=8) a (show b < 2 ^ 8 by omega);omega) a b h0 h1 h2 h3
theorem QHT (a b:Int)(h0:0≤a)(h1:a≤255)(h2:0≤b)(h3:b≤255):0≤bits .or .u8 a b∧bits .or .u8 a b≤255 :=
 QAL (Q:=fun a b=>0≤bits .or .u8 a b∧bits .or .u8 a b≤255) (fun a b ha hb=>by rw[u8_or_nat a b ha hb];have:=Nat.or_lt_two_pow (n:=8) (show a < 2 ^ 8 by omega) (show b < 2 ^ 8 by omega);omega) a b h0 h1 h2 h3
theorem QI9 (a b:Int)(h0:0≤a)(h1:a≤255)(h2:0≤b)(h3:b≤255):0≤bits .xor .u8 a b∧bits .xor .u8 a b≤255 :=
 QAL (Q:=fun a b=>0≤bits .xor .u8 a b∧bits .xor .u8 a b≤255) (fun a b ha hb=>by rw[u8_xor_nat a b ha hb];have:=Nat.xor_lt_two_pow (n:=8) (show a < 2 ^ 8 by omega) (show b < 2 ^ 8 by omega);omega) a b h0 h1 h2 h3
theorem QJA (a b:Int)(h0:0≤a)(h1:a≤255)(h2:0≤b)(h3:b≤255):0≤bits .andNot .u8 a b∧bits .andNot .u8 a b≤255 :=
 QAL (Q:=fun a b=>0≤bits .andNot .u8 a b∧bits .andNot .u8 a b≤255) (fun a b ha hb=>by rw[u8_andNot_nat a b ha hb];have:=Nat.and_lt_two_pow (n:=8) a (show 255-b < 2 ^ 8 by omega);omega) a b h0 h1 h2 h3
theorem QIN (a b:Int)(h0:0≤a)(h1:a≤255)(h2:0≤b)(h3:b≤255)(h:∀ n:Nat,n < 8→isM a n=isM b n):a=b:=by
 have key:a.toNat=b.toNat:=by
  apply Nat.eq_of_testBit_eq
  intro i
  by_cases hi:i < 8
  · have:=h i hi
    rw[show a=((a.toNat:Nat):Int) from (Int.toNat_of_nonneg h0).symm,show b=((b.toNat:Nat):Int) from (Int.toNat_of_nonneg h2).symm,Xz _ _ hi,Xz _ _ hi] at this
    exact this
  · have p:2 ^ 8≤2 ^ i:=Nat.pow_le_pow_right (by omega) (by omega)
    rw[Nat.testBit_lt_two_pow (show a.toNat < 2 ^ i by omega),Nat.testBit_lt_two_pow (show b.toNat < 2 ^ i by omega)]
 omega
def Masks (w:World):Prop:=w.cell? ⟨3,0,none⟩=some (.int .u8 64)∧w.cell? ⟨3,1,none⟩=some (.int .u8 1)∧w.cell? ⟨3,2,none⟩=some (.int .u8 4)∧w.cell? ⟨3,3,none⟩=some (.int .u8 128)
theorem Masks.below {w w':World}(h:Masks w)(k:Below w.heap.size w w'):Masks w' :=
 ⟨(k.cell (World.block_lt_of_cell? _ _ h.1)).trans h.1,(k.cell (World.block_lt_of_cell? _ _ h.2.1)).trans h.2.1,(k.cell (World.block_lt_of_cell? _ _ h.2.2.1)).trans h.2.2.1,(k.cell (World.block_lt_of_cell? _ _ h.2.2.2)).trans h.2.2.2⟩
theorem QOp:∀ x:Fin 256,(bits .and .u8 (x.val:Int) 64 != 0)=isM (x.val:Int) 6∧(bits .and .u8 (x.val:Int) 1 != 0)=isM (x.val:Int) 0∧(bits .and .u8 (x.val:Int) 4 != 0)=isM (x.val:Int) 2∧(bits .and .u8 (x.val:Int) 128 != 0)=isM (x.val:Int) 7:=by decide +kernel
theorem QEk (f:Int)(h0:0≤f)(h1:f≤255):(bits .and .u8 f 64 != 0)=isM f 6∧(bits .and .u8 f 1 != 0)=isM f 0∧(bits .and .u8 f 4 != 0)=isM f 2∧(bits .and .u8 f 128 != 0)=isM f 7 :=
 QB (P:=fun f=>(bits .and .u8 f 64 != 0)=isM f 6∧(bits .and .u8 f 1 != 0)=isM f 0∧(bits .and .u8 f 4 != 0)=isM f 2∧(bits .and .u8 f 128 != 0)=isM f 7) QOp f h0 h1
theorem QGI (f c:Int)(h:c < 0∨8≤c):Z4 f c=false:=by
 unfold Z4
 repeat (rw[if_neg (by omega)])
theorem QOg (f c:Int)(h0:0≤f)(h1:f≤255)(w:World)(hm:Masks w) :
 Calls Tryz.prog 299 #[.int .u8 f,.int .i64 c] w fun e w'=>e=.returned (.bool (Z4 f c))∧w=w':=by
 obtain⟨m0,m1,m2,m3⟩:=hm
 obtain⟨k0,k1,k2,k3⟩:=QEk f h0 h1
 by_cases hc:c < 0∨8≤c
 · rw[QGI f c hc]
   rcases hc with hc|hc
   · go_enter Tryz.func299,Tryz.ntmps299
     go_wp2
     go_ret
     exact⟨rfl,rfl⟩
   · go_enter Tryz.func299,Tryz.ntmps299
     go_wp2
     go_ret
     exact⟨rfl,rfl⟩
 · obtain rfl|rfl|rfl|rfl|rfl|rfl|rfl|rfl:c=0∨c=1∨c=2∨c=3∨c=4∨c=5∨c=6∨c=7:=by omega
   all_goals
    clear hc
    go_enter Tryz.func299,Tryz.ntmps299
    go_wp2
    go_ret
    refine⟨Qn ?_,rfl⟩
    simp only[Z4]
    simp[k0,k1,k2,k3]
theorem QF9 (f c:Int)(h0:0≤f)(h1:f≤255)(w:World) :
 Calls Tryz.prog 181 #[.int .u8 f,.int .i64 c] w fun e w'=>e=.returned (.bool (Z4 f c))∧Below w.heap.size w w':=by
 by_cases hc:c < 0∨8≤c
 · rw[QGI f c hc]
   have n0:(c==0)=false:=by simp;omega
   have n1:(c==1)=false:=by simp;omega
   have n2:(c==2)=false:=by simp;omega
   have n3:(c==3)=false:=by simp;omega
   have n4:(c==4)=false:=by simp;omega
   have n5:(c==5)=false:=by simp;omega
   have n6:(c==6)=false:=by simp;omega
   have n7:(c==7)=false:=by simp;omega
   clear hc
   go_enter Tryz.func181,Tryz.ntmps181
   go_wp2_with (go_at_call 153;refine (Qc _ h0 h1 _).mono ?_;rintro e w' ⟨rfl,hb⟩;have hsz:=hb.size)
   go_ret
   exact⟨rfl,(by repeat (first|exact Below.refl _ _|assumption|refine JZ ?_ (by assumption)|refine Below.drew ?_|refine Below.alloc ?_ (by first|(simp;done)|(simp;omega)|omega) _|refine Below.setCell ?_ (by first|(simp;done)|(simp;omega)|omega) _))⟩
 · obtain rfl|rfl|rfl|rfl|rfl|rfl|rfl|rfl:c=0∨c=1∨c=2∨c=3∨c=4∨c=5∨c=6∨c=7:=by omega
   all_goals
    clear hc
    go_enter Tryz.func181,Tryz.ntmps181
    go_wp2_with (go_at_call 153;refine (Qc _ h0 h1 _).mono ?_;rintro e w' ⟨rfl,hb⟩;have hsz:=hb.size)
    go_ret
    exact⟨rfl,(by repeat (first|exact Below.refl _ _|assumption|refine JZ ?_ (by assumption)|refine Below.drew ?_|refine Below.alloc ?_ (by first|(simp;done)|(simp;omega)|omega) _|refine Below.setCell ?_ (by first|(simp;done)|(simp;omega)|omega) _))⟩
theorem QKK:∀ x:Fin 256,x.val≠0→bits .and .u8 (x.val:Int) 168=JE (x.val:Int):=by decide +kernel
theorem QJk (r:Int)(h0:0≤r)(h1:r≤255)(h:r≠0):bits .and .u8 r 168=JE r:=by
 have:=QKK ⟨r.toNat,by omega⟩ (by simp;omega)
 simpa [Int.toNat_of_nonneg h0] using this
theorem jM (r:Int)(h0:0≤r)(h1:r≤255)(w:World) :
 Calls Tryz.prog 307 #[.int .u8 r] w fun e w'=>e=.returned (.int .u8 (JE r))∧w=w':=by
 by_cases h:r=0
 · subst h
   go_enter Tryz.func307,Tryz.ntmps307
   go_wp2
   go_ret
   exact⟨Qf (by decide +kernel),rfl⟩
 · have H:=Lib.hid (QJk r h0 h1 h)
   have n0:(r==0)=false:=by simp;omega
   clear h
   go_enter Tryz.func307,Tryz.ntmps307
   go_wp2
   go_ret
   exact⟨Qf H.out,rfl⟩
theorem jp (r:Int)(h0:0≤r)(h1:r≤255)(w:World) :
 Calls Tryz.prog 167 #[.int .u8 r] w fun e w'=>e=.returned (.int .u8 (JE r))∧Below w.heap.size w w':=by
 go_enter Tryz.func167,Tryz.ntmps167
 go_wp2_with (first|(go_at_call 153;refine (Qc _ h0 h1 _).mono ?_;rintro e w' ⟨rfl,hb⟩;have hsz:=hb.size)|(go_at_call 155;refine (QD _ _ _ _ _ _ _ _ _).mono ?_;rintro e w' ⟨rfl,hb⟩;have hsz:=hb.size))
 go_ret
 exact⟨rfl,(by repeat (first|exact Below.refl _ _|assumption|refine JZ ?_ (by assumption)|refine Below.drew ?_|refine Below.alloc ?_ (by first|(simp;done)|(simp;omega)|omega) _|refine Below.setCell ?_ (by first|(simp;done)|(simp;omega)|omega) _))⟩
theorem QNw:∀ x:Fin 256,Jn (x.val:Int)=if jj (x.val:Int) then bits .or .u8 (JE (x.val:Int)) 4 else JE (x.val:Int):=by decide +kernel
theorem QO5 (r:Int)(h0:0≤r)(h1:r≤255):Jn r=if jj r then bits .or .u8 (JE r) 4 else JE r :=
 QB (P:=fun r=>Jn r=if jj r then bits .or .u8 (JE r) 4 else JE r) QNw r h0 h1
theorem ZO (r:Int)(h0:0≤r)(h1:r≤255)(w:World) :
 Calls Tryz.prog 254 #[.int .u8 r] w fun e w'=>e=.returned (.int .u8 (Jn r))∧Below w.heap.size w w':=by
 have H:=Lib.hid (QO5 r h0 h1)
 cases he:jj r
 all_goals
  go_enter Tryz.func254,Tryz.ntmps254
  go_wp2_with (first|(go_at_call 307;refine (jM _ h0 h1 _).mono ?_;rintro e w' ⟨rfl,rfl⟩)|(go_at_call 308;refine (QIb _ h0 h1 _).mono ?_;rintro e w' ⟨rfl,hb⟩;have hsz:=hb.size))
  go_ret
  exact⟨Qf (by rw[H.out,he];simp),(by repeat (first|exact Below.refl _ _|assumption|refine JZ ?_ (by assumption)|refine Below.drew ?_|refine Below.alloc ?_ (by first|(simp;done)|(simp;omega)|omega) _|refine Below.setCell ?_ (by first|(simp;done)|(simp;omega)|omega) _))⟩
theorem X3 (r:Int)(h0:0≤r)(h1:r≤255)(w:World) :
 Calls Tryz.prog 104 #[.int .u8 r] w fun e w'=>e=.returned (.int .u8 (Jn r))∧Below w.heap.size w w':=by
 go_enter Tryz.func104,Tryz.ntmps104
 go_wp2_with (first|(go_at_call 153;refine (Qc _ h0 h1 _).mono ?_;rintro e w' ⟨rfl,hb⟩;have hsz:=hb.size)|(go_at_call 154;refine (QGN _ h0 h1 _).mono ?_;rintro e w' ⟨rfl,rfl⟩)|(go_at_call 155;refine (QD _ _ _ _ _ _ _ _ _).mono ?_;rintro e w' ⟨rfl,hb⟩;have hsz:=hb.size))
 go_ret
 exact⟨rfl,(by repeat (first|exact Below.refl _ _|assumption|refine JZ ?_ (by assumption)|refine Below.drew ?_|refine Below.alloc ?_ (by first|(simp;done)|(simp;omega)|omega) _|refine Below.setCell ?_ (by first|(simp;done)|(simp;omega)|omega) _))⟩
def ArrIs (w:World)(A n:Nat)(v:Nat→Value):Prop:=∀ j,j < n→w.cell? ⟨A,j,none⟩=some (v j)∧w.frozen? ⟨A,j,none⟩=false
theorem ArrIs.lt {w:World} {A n:Nat} {v:Nat→Value}(h:ArrIs w A n v)(hn:0 < n):A < w.heap.size:=World.block_lt_of_cell? _ _ (h 0 hn).1
theorem ArrIs.below {w w':World} {A n B:Nat} {v:Nat→Value}(h:ArrIs w A n v)(k:Below B w w')(hB:A < B):ArrIs w' A n v :=
 fun j hj=>⟨(k.cell (p:=⟨A,j,none⟩) hB).trans (h j hj).1,(k.frozen (p:=⟨A,j,none⟩) hB).trans (h j hj).2⟩
theorem ArrIs.kept {w w':World} {A n:Nat} {v:Nat→Value}(h:ArrIs w A n v)(k:Below w.heap.size w w'):ArrIs w' A n v :=
 fun j hj=>h.below k (World.block_lt_of_cell? _ _ (h j hj).1) j hj
theorem ArrIs.alloc {w:World} {A n:Nat} {v:Nat→Value}(h:ArrIs w A n v)(o:Obj):ArrIs (w.alloc o) A n v :=
 h.kept ((Below.refl _ w).alloc (Nat.le_refl _) o)
theorem ArrIs.set {w:World} {A n k:Nat} {v:Nat→Value}(h:ArrIs w A n v)(u:Value)(hk:k < n):ArrIs (w.setCell ⟨A,k,none⟩ u) A n (fun j=>if j=k then u else v j):=by
 intro j hj
 by_cases e:j=k
 · subst e
   simp only[if_true,World.frozen?_setCell]
   exact⟨World.cell?_setCell_same _ _ _ (h j hj).1,(h j hj).2⟩
 · simp only[if_neg e,World.frozen?_setCell]
   refine⟨(World.cell?_setCell_other _ _ _ _ ?_).trans (h j hj).1,(h j hj).2⟩
   intro c
   injection c with _ c2
   exact e c2.symm
theorem ArrIs.congr {w:World} {A n:Nat} {v u:Nat→Value}(h:ArrIs w A n v)(e:∀ j,j < n→v j=u j):ArrIs w A n u :=
 fun j hj=>⟨by rw[←e j hj];exact (h j hj).1,(h j hj).2⟩
theorem ArrIs.new (w:World)(cs:Array Value)(t:TypeId)(lo hi:Nat)(v:Nat→Value)(n:Nat)(hn:n≤lo∨hi=0)(hv:∀ j,j < n→cs[j]? = some (v j)):ArrIs (w.alloc (.cells cs t (lo,hi))) w.heap.size n v:=by
 intro j hj
 have e:(w.alloc (.cells cs t (lo,hi))).heap[w.heap.size]? = some (.cells cs t (lo,hi)):=by
  show (w.heap.push _)[w.heap.size]? = _
  simp
 constructor
 · simp only[World.cell?,e]
   simpa using hv j hj
 · simp only[World.frozen?,e]
   rcases hn with h|h
   · rw[decide_eq_false (by omega)];rfl
   · rw[h];simp
theorem QNM (P:Nat→Prop)(h:P 0∧P 1∧P 2∧P 3∧P 4∧P 5∧P 6∧P 7)(n:Nat)(hn:n < 8):P n:=by
 obtain⟨h0,h1,h2,h3,h4,h5,h6,h7⟩:=h
 match n,hn with
 | 0,_=>exact h0
 | 1,_=>exact h1
 | 2,_=>exact h2
 | 3,_=>exact h3
 | 4,_=>exact h4
 | 5,_=>exact h5
 | 6,_=>exact h6
 | 7,_=>exact h7
theorem QLf (b0 b1 b2 b3 b4 b5 b6 b7:Bool)(n:Nat)(hn:n < 8):isM (mkM b0 b1 b2 b3 b4 b5 b6 b7) (n:Int)=[b7,b6,b5,b4,b3,b2,b1,b0].getD n false:=by
 obtain⟨h0,h1,h2,h3,h4,h5,h6,h7⟩:=Xv b0 b1 b2 b3 b4 b5 b6 b7
 exact QNM (fun n=>isM (mkM b0 b1 b2 b3 b4 b5 b6 b7) (n:Int)=[b7,b6,b5,b4,b3,b2,b1,b0].getD n false) ⟨h7,h6,h5,h4,h3,h2,h1,h0⟩ n hn
theorem QPT (f o m:Int)(h0:0≤f)(h1:f≤255)(h2:0≤o)(h3:o≤255)(h4:0≤m)(h5:m≤255) :
 bits .or .u8 (bits .andNot .u8 f m) (bits .and .u8 o m)=Xc f o m:=by
 have a:=QJA f m h0 h1 h4 h5
 have b:=QB0 o m h2 h3 h4 h5
 have c:=QHT _ _ a.1 a.2 b.1 b.2
 have d:=QKQ f o m
 refine QIN _ _ c.1 c.2 d.1 d.2 fun n hn=>?_
 rw[QOM _ _ n hn a.1 a.2 b.1 b.2,QKp _ _ n hn h0 h1 h4 h5,QDw _ _ n hn h2 h3 h4 h5]
 unfold Xc
 rw[QLf _ _ _ _ _ _ _ _ n hn]
 refine QNM (fun n=>((isM f n&&!isM m n)||(isM o n&&isM m n))=[_,_,_,_,_,_,_,_].getD n false) ?_ n hn
 simp only[List.getD_cons_zero,List.getD_cons_succ,sel]
 refine⟨?_,?_,?_,?_,?_,?_,?_,?_⟩
 · cases isM m 0<;>simp
 · cases isM m 1<;>simp
 · cases isM m 2<;>simp
 · cases isM m 3<;>simp
 · cases isM m 4<;>simp
 · cases isM m 5<;>simp
 · cases isM m 6<;>simp
 · cases isM m 7<;>simp
theorem X1 (f o m:Int)(h0:0≤f)(h1:f≤255)(h2:0≤o)(h3:o≤255)(h4:0≤m)(h5:m≤255)(w:World) :
 Calls Tryz.prog 257 #[.int .u8 f,.int .u8 o,.int .u8 m] w fun e w'=>e=.returned (.int .u8 (Xc f o m))∧w=w':=by
 have H:=Lib.hid (QPT f o m h0 h1 h2 h3 h4 h5)
 go_enter Tryz.func257,Tryz.ntmps257
 go_wp2
 go_ret
 exact⟨Qf H.out,rfl⟩
def fl (f:Int)(j:Nat):Bool:=isM f (7-(j:Int))
def kept (f o m:Int)(k j:Nat):Bool:=if j < k then sel (fl m j) (fl f j) (fl o j) else fl f j
def one (c:Bool):Int:=if c then 1 else 0
theorem Qq (c:Bool):0≤one c∧one c≤1:=by cases c<;>decide
def QAO (n:Int):Bool:=decide (n < -128)||decide (127 < n)
def XJ (a b:Int)(c:Bool):Int:=(a+b+one c)%256
def XI (a b:Int)(c:Bool):Int :=
 mkM (isM (XJ a b c) 7) (XJ a b c==0) (isM (XJ a b c) 5) (decide (15 < a%16+b%16+one c)) (isM (XJ a b c) 3) (QAO (JR a+JR b+one c)) false (decide (255 < a+b+one c))
def QQ (a b:Int)(c:Bool):Int:=(a-b-one c)%256
def QE (a b:Int)(c:Bool):Int :=
 mkM (isM (QQ a b c) 7) (QQ a b c==0) (isM (QQ a b c) 5) (decide (a%16-b%16-one c < 0)) (isM (QQ a b c) 3) (QAO (JR a-JR b-one c)) true (decide (a-b-one c < 0))
def QDa (a b:Int):Int :=
 mkM (isM (QQ a b false) 7) (QQ a b false==0) (isM b 5) (decide (a%16-b%16-one false < 0)) (isM b 3) (QAO (JR a-JR b-one false)) true (decide (a-b-one false < 0))
def QDc (a f:Int):Int :=
 mkM (isM (XJ a 1 false) 7) (XJ a 1 false==0) (isM (XJ a 1 false) 5) (decide (15 < a%16+1%16+one false)) (isM (XJ a 1 false) 3) (QAO (JR a+JR 1+one false)) false (isM f 0)
def QDW (a f:Int):Int :=
 mkM (isM (QQ a 1 false) 7) (QQ a 1 false==0) (isM (QQ a 1 false) 5) (decide (a%16-1%16-one false < 0)) (isM (QQ a 1 false) 3) (QAO (JR a-JR 1-one false)) true (isM f 0)
theorem QO (a b:Int)(c:Bool):B8 (XJ a b c):=by unfold XJ B8;omega
theorem J5 (a b:Int)(c:Bool):B8 (QQ a b c):=by unfold QQ B8;omega
theorem Qw (a b:Int)(c:Bool):B8 (XI a b c):=QW ..
theorem J9 (a b:Int)(c:Bool):B8 (QE a b c):=QW ..
theorem QBC (a b:Int):B8 (QDa a b):=QW ..
theorem QAw (a b:Int):B8 (QDc a b):=QW ..
theorem QA5 (a b:Int):B8 (QDW a b):=QW ..
def cK (a b:Int)(c:Bool)(k:Nat):Bool:=decide (2 ^ k≤a%2 ^ k+b%2 ^ k+one c)
theorem QPt (a b:Int)(c:Bool):cK a b c 0=c:=by
 unfold cK one
 cases c<;>simp<;>omega
theorem QQf (a b:Int)(c:Bool)(k:Nat)(hk:k < 8):cK a b c (k+1)=if cK a b c k then (isM a k||isM b k) else (isM a k&&isM b k):=by
 have key:=Qq c
 refine QNM (fun k=>cK a b c (k+1)=if cK a b c k then (isM a k||isM b k) else (isM a k&&isM b k)) ?_ k hk
 unfold cK isM
 generalize one c=o at key ⊢
 refine⟨?_,?_,?_,?_,?_,?_,?_,?_⟩
 all_goals
  rw[Bool.eq_iff_iff]
  simp
  split<;>omega
def qg (a b:Int)(c:Bool):Nat→Int
 | 0=>0
 | k+1=>if cK a b c (k+1) then JQ (qg a b c k) k true else qg a b c k
theorem QA3 (a b:Int)(c:Bool):∀ k,B8 (qg a b c k)
 | 0=>B8.zero
 | k+1=>by
   unfold qg
   split
   · exact (QA3 a b c k).with _ _
   · exact QA3 a b c k
theorem QL9:∀ c1 c2 c3 c4 c5 c6 c7 c8:Bool,
 let w:=fun (x:Int) (k:Int) (c:Bool)=>if c then JQ x k true else x
 let o:=w (w (w (w (w (w (w (w 0 0 c1) 1 c2) 2 c3) 3 c4) 4 c5) 5 c6) 6 c7) 7 c8
 isM o 3=c4∧isM o 6=c7∧isM o 7=c8:=by decide +kernel
theorem QOY (a b:Int)(c:Bool):isM (qg a b c 8) 3=cK a b c 4∧isM (qg a b c 8) 6=cK a b c 7∧isM (qg a b c 8) 7=cK a b c 8 :=
 QL9 (cK a b c 1) (cK a b c 2) (cK a b c 3) (cK a b c 4) (cK a b c 5) (cK a b c 6) (cK a b c 7) (cK a b c 8)
theorem QP7 (a b:Int)(c:Bool)(ha:B8 a)(hb:B8 b):cK a b c 4=decide (15 < a%16+b%16+one c)∧cK a b c 8=decide (255 < a+b+one c)∧(cK a b c 7 != cK a b c 8)=QAO (JR a+JR b+one c):=by
 obtain⟨a0,a1⟩:=ha
 obtain⟨b0,b1⟩:=hb
 have key:=Qq c
 unfold cK QAO JR
 generalize one c=o at key ⊢
 refine⟨?_,?_,?_⟩
 · rw[Bool.eq_iff_iff];simp;omega
 · rw[Bool.eq_iff_iff];simp;omega
 · rw[Bool.eq_iff_iff]
   simp
   split<;>split<;>omega
def W16 (x:Int):Prop:=0≤x∧x≤65535
theorem W16.lo {x:Int}(h:W16 x):0≤x:=h.1
theorem W16.hi {x:Int}(h:W16 x):x≤65535:=h.2
theorem W16.low {x:Int}(h:W16 x):B8 (x%256):=by unfold B8;omega
theorem W16.high {x:Int}(h:W16 x):B8 (x / 256):=by obtain⟨h0,h1⟩:=h;unfold B8;omega
def Qx (w:Int):Int:=if w < 32768 then w else w-65536
def QH2 (n:Int):Bool:=decide (n < -32768)||decide (32767 < n)
def X0 (a b:Int)(c:Bool):Int:=(a+b+one c)%65536
def jr (a b:Int)(c:Bool):Int:=(a-b-one c)%65536
def QGJ (r:Int)(half over minus out:Bool):Int :=
 mkM (isM (r / 256) 7) (r==0) (isM (r / 256) 5) half (isM (r / 256) 3) over minus out
def zZ (a b:Int)(c:Bool):Int :=
 QGJ (X0 a b c) (decide (4095 < a%4096+b%4096+one c)) (QH2 (Qx a+Qx b+one c)) false (decide (65535 < a+b+one c))
def QAB (a b:Int)(c:Bool):Int :=
 QGJ (jr a b c) (decide (a%4096-b%4096-one c < 0)) (QH2 (Qx a-Qx b-one c)) true (decide (a-b-one c < 0))
def QBv (a b f:Int):Int :=
 mkM (isM f 7) (isM f 6) (isM (X0 a b false / 256) 5) (decide (4095 < a%4096+b%4096)) (isM (X0 a b false / 256) 3) (isM f 2) false (decide (65535 < a+b))
def JA (w y:Int):Int:=(w+y)%65536
theorem QGS (a b:Int)(c:Bool):W16 (X0 a b c):=by unfold X0 W16;omega
theorem QMe (a b:Int)(c:Bool):W16 (jr a b c):=by unfold jr W16;omega
theorem QCb (a b:Int)(c:Bool):B8 (zZ a b c):=QW ..
theorem QGH (a b:Int)(c:Bool):B8 (QAB a b c):=QW ..
theorem QEs (a b f:Int):B8 (QBv a b f):=QW ..
def QCH (a b:Int)(c:Bool):Bool:=isM (XI (a%256) (b%256) c) 0
def QBo (a b:Int)(c:Bool):Bool:=isM (QE (a%256) (b%256) c) 0
theorem QEY (a b:Int)(c:Bool):isM (XI a b c) 0=decide (255 < a+b+one c):=(Xv _ _ _ _ _ _ _ _).2.2.2.2.2.2.2
theorem QEG (a b:Int)(c:Bool):isM (QE a b c) 0=decide (a-b-one c < 0):=(Xv _ _ _ _ _ _ _ _).2.2.2.2.2.2.2
theorem QDm (p:Prop) [Decidable p]:one (decide p)=if p then 1 else 0:=by unfold one;by_cases h:p<;>simp[h]
theorem QRi (x0 x1 x2 x3 x4 x5 x6 x7:Bool)(f:Int):Xc (mkM x0 x1 x2 x3 x4 x5 x6 x7) f 64=mkM x0 (isM f 6) x2 x3 x4 x5 x6 x7:=by
 unfold Xc
 obtain⟨h0,h1,h2,h3,h4,h5,h6,h7⟩:=Xv x0 x1 x2 x3 x4 x5 x6 x7
 obtain⟨z0,z1,z2,z3,z4,z5,z6,z7⟩:isM 64 0=false∧isM 64 1=false∧isM 64 2=false∧isM 64 3=false∧isM 64 4=false∧isM 64 5=false∧isM 64 6=true∧isM 64 7=false:=by decide +kernel
 rw[h0,h1,h2,h3,h4,h5,h6,h7,z0,z1,z2,z3,z4,z5,z6,z7]
 rfl
theorem QQv (x0 x1 x2 x3 x4 x5 x6 x7:Bool)(f:Int):Xc (mkM x0 x1 x2 x3 x4 x5 x6 x7) f 196=mkM (isM f 7) (isM f 6) x2 x3 x4 (isM f 2) x6 x7:=by
 unfold Xc
 obtain⟨h0,h1,h2,h3,h4,h5,h6,h7⟩:=Xv x0 x1 x2 x3 x4 x5 x6 x7
 obtain⟨z0,z1,z2,z3,z4,z5,z6,z7⟩:isM 196 0=false∧isM 196 1=false∧isM 196 2=true∧isM 196 3=false∧isM 196 4=false∧isM 196 5=false∧isM 196 6=true∧isM 196 7=true:=by decide +kernel
 rw[h0,h1,h2,h3,h4,h5,h6,h7,z0,z1,z2,z3,z4,z5,z6,z7]
 rfl
theorem QJC (a b:Int)(c:Bool)(ha:W16 a)(hb:W16 b):256*XJ (a / 256) (b / 256) (QCH a b c)+XJ (a%256) (b%256) c=X0 a b c:=by
 obtain⟨a0,a1⟩:=ha
 obtain⟨b0,b1⟩:=hb
 have key:=Qq c
 unfold QCH
 rw[QEY]
 unfold XJ X0
 rw[QDm]
 split<;>omega
theorem QJH (a b:Int)(c:Bool)(ha:W16 a)(hb:W16 b):256*QQ (a / 256) (b / 256) (QBo a b c)+QQ (a%256) (b%256) c=jr a b c:=by
 obtain⟨a0,a1⟩:=ha
 obtain⟨b0,b1⟩:=hb
 have key:=Qq c
 unfold QBo
 rw[QEG]
 unfold QQ jr
 rw[QDm]
 split<;>omega
theorem QRr (x y:Int)(hx:B8 x)(hy:B8 y):(x==0&&y==0)=(256*x+y==0):=by
 obtain⟨x0,x1⟩:=hx
 obtain⟨y0,y1⟩:=hy
 rw[Bool.eq_iff_iff];simp;omega
theorem QLo (a b:Int)(c:Bool)(ha:W16 a)(hb:W16 b) :
 Xc (XI (a / 256) (b / 256) (QCH a b c)) (bits .and .u8 (XI (a / 256) (b / 256) (QCH a b c)) (XI (a%256) (b%256) c)) 64=zZ a b c:=by
 have hw:=QJC a b c ha hb
 have r1:=QO (a / 256) (b / 256) (QCH a b c)
 have r2:=QO (a%256) (b%256) c
 have z:isM (bits .and .u8 (XI (a / 256) (b / 256) (QCH a b c)) (XI (a%256) (b%256) c)) 6=(X0 a b c==0):=by
  rw[←hw,←QRr _ _ r1 r2]
  have f1:=Qw (a / 256) (b / 256) (QCH a b c)
  have f2:=Qw (a%256) (b%256) c
  have:=QDw _ _ 6 (by omega) f1.1 f1.2 f2.1 f2.2
  rw[show ((6:Nat):Int)=6 from rfl] at this
  rw[this]
  exact congr (congrArg _ (Xv _ _ _ _ _ _ _ _).2.1) (Xv _ _ _ _ _ _ _ _).2.1
 have hh:XJ (a / 256) (b / 256) (QCH a b c)=X0 a b c / 256:=by
  obtain⟨x0,x1⟩:=r2
  rw[←hw];omega
 generalize bits .and .u8 (XI (a / 256) (b / 256) (QCH a b c)) (XI (a%256) (b%256) c)=y at z ⊢
 unfold XI
 rw[QRi,z,hh]
 unfold zZ QGJ
 obtain⟨a0,a1⟩:=ha
 obtain⟨b0,b1⟩:=hb
 have key:=Qq c
 have m:one (QCH a b c)=if 255 < a%256+b%256+one c then 1 else 0:=by unfold QCH;rw[QEY,QDm]
 have n4:decide (15 < a / 256%16+b / 256%16+one (QCH a b c))=decide (4095 < a%4096+b%4096+one c):=by
  rw[m,Bool.eq_iff_iff];simp;split<;>omega
 have n8:decide (255 < a / 256+b / 256+one (QCH a b c))=decide (65535 < a+b+one c):=by
  rw[m,Bool.eq_iff_iff];simp;split<;>omega
 have n7:QAO (JR (a / 256)+JR (b / 256)+one (QCH a b c))=QH2 (Qx a+Qx b+one c):=by
  unfold QAO QH2 JR Qx
  rw[m,Bool.eq_iff_iff]
  simp
  split<;>split<;>split<;>split<;>split<;>omega
 rw[n4,n8,n7]
theorem QL8 (a b:Int)(c:Bool)(ha:W16 a)(hb:W16 b) :
 Xc (QE (a / 256) (b / 256) (QBo a b c)) (bits .and .u8 (QE (a / 256) (b / 256) (QBo a b c)) (QE (a%256) (b%256) c)) 64=QAB a b c:=by
 have hw:=QJH a b c ha hb
 have r1:=J5 (a / 256) (b / 256) (QBo a b c)
 have r2:=J5 (a%256) (b%256) c
 have z:isM (bits .and .u8 (QE (a / 256) (b / 256) (QBo a b c)) (QE (a%256) (b%256) c)) 6=(jr a b c==0):=by
  rw[←hw,←QRr _ _ r1 r2]
  have f1:=J9 (a / 256) (b / 256) (QBo a b c)
  have f2:=J9 (a%256) (b%256) c
  have:=QDw _ _ 6 (by omega) f1.1 f1.2 f2.1 f2.2
  rw[show ((6:Nat):Int)=6 from rfl] at this
  rw[this]
  exact congr (congrArg _ (Xv _ _ _ _ _ _ _ _).2.1) (Xv _ _ _ _ _ _ _ _).2.1
 have hh:QQ (a / 256) (b / 256) (QBo a b c)=jr a b c / 256:=by
  obtain⟨x0,x1⟩:=r2
  rw[←hw];omega
 generalize bits .and .u8 (QE (a / 256) (b / 256) (QBo a b c)) (QE (a%256) (b%256) c)=y at z ⊢
 unfold QE
 rw[QRi,z,hh]
 unfold QAB QGJ
 obtain⟨a0,a1⟩:=ha
 obtain⟨b0,b1⟩:=hb
 have key:=Qq c
 have m:one (QBo a b c)=if a%256-b%256-one c < 0 then 1 else 0:=by unfold QBo;rw[QEG,QDm]
 have n4:decide (a / 256%16-b / 256%16-one (QBo a b c) < 0)=decide (a%4096-b%4096-one c < 0):=by
  rw[m,Bool.eq_iff_iff];simp;split<;>omega
 have n8:decide (a / 256-b / 256-one (QBo a b c) < 0)=decide (a-b-one c < 0):=by
  rw[m,Bool.eq_iff_iff];simp;split<;>omega
 have n7:QAO (JR (a / 256)-JR (b / 256)-one (QBo a b c))=QH2 (Qx a-Qx b-one c):=by
  unfold QAO QH2 JR Qx
  rw[m,Bool.eq_iff_iff]
  simp
  split<;>split<;>split<;>split<;>split<;>omega
 rw[n4,n8,n7]
theorem QMs (a b f:Int):Xc (zZ a b false) f 196=QBv a b f:=by
 unfold zZ QGJ
 rw[QQv]
 have o:one false=0:=rfl
 unfold QBv
 rw[o,Int.add_zero,Int.add_zero]
def QCr (op:Bool→Bool→Bool)(a b:Int):Int :=
 mkM (op (isM a 7) (isM b 7)) (op (isM a 6) (isM b 6)) (op (isM a 5) (isM b 5)) (op (isM a 4) (isM b 4)) (op (isM a 3) (isM b 3)) (op (isM a 2) (isM b 2)) (op (isM a 1) (isM b 1)) (op (isM a 0) (isM b 0))
theorem J3 (op:Bool→Bool→Bool)(a b:Int):B8 (QCr op a b):=QW ..
def upM (b0 b1 b2 b3 b4 b5 b6 b7:Bool):Int :=
 JQ (JQ (JQ (JQ (JQ (JQ (JQ (JQ 0 0 b0) 1 b1) 2 b2) 3 b3) 4 b4) 5 b5) 6 b6) 7 b7
theorem QIK:∀ b0 b1 b2 b3 b4 b5 b6 b7:Bool,upM b0 b1 b2 b3 b4 b5 b6 b7=mkM b7 b6 b5 b4 b3 b2 b1 b0:=by decide +kernel
def QJm (x y:Bool):Bool:=x&&y
def orB (x y:Bool):Bool:=x||y
def QFm (x y:Bool):Bool:=x != y
def qX (a b:Int):Int:=QCr QJm a b
def orR (a b:Int):Int:=QCr orB a b
def Zf (a b:Int):Int:=QCr QFm a b
def qO (r:Int):Int:=mkM (isM r 7) (r==0) (isM r 5) true (isM r 3) (jj r) false false
theorem zi (r:Int):B8 (qO r):=QW ..
theorem QMp:∀ x:Fin 256,bits .or .u8 (Jn (x.val:Int)) 16=qO (x.val:Int):=by decide +kernel
theorem QM3 (r:Int)(h:B8 r):bits .or .u8 (Jn r) 16=qO r:=QB (P:=fun r=>bits .or .u8 (Jn r) 16=qO r) QMp r h.1 h.2
theorem QJe (r:Int)(h:B8 r):JQ (Jn r) 4 true=qO r :=
 QB (P:=fun r=>JQ (Jn r) 4 true=qO r) (by decide +kernel) r h.1 h.2
def ZA (f a:Int)(h n c:Bool):Int:=mkM (isM f 7) (isM f 6) (isM a 5) h (isM a 3) (isM f 2) n c
theorem Qb (f a:Int)(h n c:Bool):B8 (ZA f a h n c):=QW ..
def QED (a f:Int):Int:=ZA f (255-a) true true (isM f 0)
def QCt (a f:Int):Int:=ZA f a false false true
def QCZ (a f:Int):Int:=ZA f a (isM f 0) false (!isM f 0)
theorem QAr (b f:Int):Xc (JE b) f 196=ZA f b false false false:=by
 obtain⟨z0,z1,z2,z3,z4,z5,z6,z7⟩:isM 196 0=false∧isM 196 1=false∧isM 196 2=true∧isM 196 3=false∧isM 196 4=false∧isM 196 5=false∧isM 196 6=true∧isM 196 7=true:=by decide +kernel
 obtain⟨e7,e6,e5,e4,e3,e2,e1,e0⟩:isM (JE b) 7=_∧isM (JE b) 6=_∧isM (JE b) 5=_∧isM (JE b) 4=_∧isM (JE b) 3=_∧isM (JE b) 2=_∧isM (JE b) 1=_∧isM (JE b) 0=_:=Xv _ _ _ _ _ _ _ _
 unfold Xc ZA
 rw[z0,z1,z2,z3,z4,z5,z6,z7,e0,e1,e3,e4,e5]
 rfl
theorem QGR:∀ b0 b1 b2 b3 b4 b5 b6 b7:Bool,bits .or .u8 (mkM b0 b1 b2 b3 b4 b5 b6 b7) 1=mkM b0 b1 b2 b3 b4 b5 b6 true∧bits .or .u8 (mkM b0 b1 b2 b3 b4 b5 b6 b7) 16=mkM b0 b1 b2 true b4 b5 b6 b7∧bits .or .u8 (mkM b0 b1 b2 b3 b4 b5 b6 b7) 2=mkM b0 b1 b2 b3 b4 b5 true b7∧bits .or .u8 (mkM b0 b1 b2 b3 b4 b5 b6 b7) 0=mkM b0 b1 b2 b3 b4 b5 b6 b7:=by decide +kernel
theorem QP4:∀ x:Fin 256,bits .and .u8 (x.val:Int) 1=one (isM (x.val:Int) 0):=by decide +kernel
theorem zj (f:Int)(h:B8 f):bits .and .u8 f 1=one (isM f 0):=QB (P:=fun f=>bits .and .u8 f 1=one (isM f 0)) QP4 f h.1 h.2
theorem or_one (b0 b1 b2 b3 b4 b5 b6 c:Bool):bits .or .u8 (mkM b0 b1 b2 b3 b4 b5 b6 false) (one c)=mkM b0 b1 b2 b3 b4 b5 b6 c:=by
 cases c
 · exact (QGR b0 b1 b2 b3 b4 b5 b6 false).2.2.2
 · exact (QGR b0 b1 b2 b3 b4 b5 b6 false).1
theorem QO7 (a f:Int)(hf:B8 f):bits .or .u8 (bits .or .u8 (bits .or .u8 (Xc (JE (255-a)) f 196) (bits .and .u8 f 1)) 16) 2=QED a f:=by
 rw[QAr,zj f hf]
 unfold ZA QED ZA
 rw[or_one,(QGR _ _ _ _ _ _ _ _).2.1,(QGR _ _ _ _ _ _ _ _).2.2.1]
theorem QNo (a f:Int):bits .or .u8 (Xc (JE a) f 196) 1=QCt a f:=by
 rw[QAr]
 unfold ZA QCt ZA
 rw[(QGR _ _ _ _ _ _ _ _).1]
theorem QS7 (a f:Int)(h:isM f 0=false):QCt a f=QCZ a f:=by
 unfold QCt QCZ
 rw[h]
 rfl
theorem QP0 (a f:Int)(h:isM f 0=true):bits .or .u8 (Xc (JE a) f 196) 16=QCZ a f:=by
 rw[QAr]
 unfold ZA QCZ ZA
 rw[h,(QGR _ _ _ _ _ _ _ _).2.1]
 rfl
def QEg (a f:Int):Bool:=isM f 4||decide (9 < a%16)
def zI (a f:Int):Bool:=isM f 0||decide (153 < a)
def byM (a f:Int):Int:=(if QEg a f then 6 else 0)+(if zI a f then 96 else 0)
def Xj (a f:Int):Int:=if isM f 1 then (a-byM a f)%256 else (a+byM a f)%256
def QDe (a f:Int):Int :=
 mkM (isM (Xj a f) 7) (Xj a f==0) (isM (Xj a f) 5) (isM a 4 != isM (Xj a f) 4) (isM (Xj a f) 3) (jj (Xj a f)) (isM f 1) (zI a f)
theorem jU (a f:Int):B8 (Xj a f):=by unfold Xj B8;split<;>omega
theorem QAk (a f:Int):B8 (QDe a f):=QW ..
theorem QOr (a f:Int):0≤byM a f∧byM a f≤102:=by unfold byM;split<;>split<;>omega
def inM (kind b f:Int):Bool :=
 if kind=0 then isM b 7 else if kind=1 then isM b 0 else if kind=2 then isM f 0 else if kind=3 then isM f 0 else
 if kind=4 then false else if kind=5 then isM b 7 else if kind=6 then true else false
def ZR (kind b:Int):Bool:=if kind%2=0 then isM b 7 else isM b 0
def QMK (b:Int)(i:Bool):Int:=JQ (Xk b 1) 0 i
def QNI (b:Int)(i:Bool):Int:=JQ (Xk b (-1)) 7 i
def shM (kind b f:Int):Int:=if kind%2=0 then QMK b (inM kind b f) else QNI b (inM kind b f)
def doR (kind b f:Int):Int:=if 0≤kind∧kind < 8 then shM kind b f else b
def doF (kind b f:Int):Int:=if 0≤kind∧kind < 8 then JQ (Jn (shM kind b f)) 0 (ZR kind b) else f
def QBW (kind b f:Int):Int:=if 0≤kind∧kind < 4 then shM kind b f else b
def QBa (kind b f:Int):Int:=if 0≤kind∧kind < 4 then ZA f (shM kind b f) false false (ZR kind b) else f
theorem zB (kind b f:Int)(hb:B8 b):B8 (shM kind b f):=by
 unfold shM QMK QNI
 split
 · exact B8.with (Xa b 1 hb.1 hb.2) _ _
 · exact B8.with (Xa b (-1) hb.1 hb.2) _ _
theorem zO (kind b f:Int)(hb:B8 b):B8 (doR kind b f):=by
 unfold doR
 split
 · exact zB _ _ _ hb
 · exact hb
theorem QB8 (kind b f:Int)(hf:B8 f):B8 (doF kind b f):=by
 unfold doF
 split
 · exact B8.with (Jz _) _ _
 · exact hf
theorem QAm (kind b f:Int)(hb:B8 b):B8 (QBW kind b f):=by
 unfold QBW
 split
 · exact zB _ _ _ hb
 · exact hb
theorem QAz (kind b f:Int)(hf:B8 f):B8 (QBa kind b f):=by
 unfold QBa
 split
 · exact Qb ..
 · exact hf
def QN7 (b:Int):Int:=JQ (JQ (JQ (JQ (JQ (JQ (JQ (JQ 0 1 (isM b 0)) 2 (isM b 1)) 3 (isM b 2)) 4 (isM b 3)) 5 (isM b 4)) 6 (isM b 5)) 7 (isM b 6)) 8 (isM b 7)
def QKn (b:Int):Int:=JQ (JQ (JQ (JQ (JQ (JQ (JQ (JQ 0 (-1) (isM b 0)) 0 (isM b 1)) 1 (isM b 2)) 2 (isM b 3)) 3 (isM b 4)) 4 (isM b 5)) 5 (isM b 6)) 6 (isM b 7)
theorem QSi:∀ (x:Fin 256) (i:Bool),JQ (QN7 (x.val:Int)) 0 i=QMK (x.val:Int) i∧JQ (QKn (x.val:Int)) 7 i=QNI (x.val:Int) i:=by decide +kernel
theorem QOZ (b:Int)(hb:B8 b)(i:Bool):JQ (QN7 b) 0 i=QMK b i∧JQ (QKn b) 7 i=QNI b i :=
 QB (P:=fun b=>JQ (QN7 b) 0 i=QMK b i∧JQ (QKn b) 7 i=QNI b i) (fun x=>QSi x i) b hb.1 hb.2
def jx (r:Int)(c:Bool):Int:=JQ (Jn r) 0 c
theorem qe (r:Int)(c:Bool):B8 (jx r c):=B8.with (Jz r) _ _
theorem mk_c:∀ b0 b1 b2 b3 b4 b5 b6 c:Bool,JQ (mkM b0 b1 b2 b3 b4 b5 b6 false) 0 c=mkM b0 b1 b2 b3 b4 b5 b6 c:=by decide +kernel
theorem QGs (r:Int)(c:Bool):bits .or .u8 (Jn r) (one c)=jx r c:=by
 unfold jx Jn
 rw[or_one,mk_c]
theorem QNl (r f:Int)(c:Bool):bits .or .u8 (Xc (JE r) f 196) (one c)=ZA f r false false c:=by
 rw[QAr]
 unfold ZA
 rw[or_one]
def ZY (right:Bool)(a b:Int):Int:=a / 16*16+(if right then b%16 else b / 16)
def QDf (right:Bool)(a b:Int):Int:=(if right then a%16 else b%16)*16+(if right then b / 16 else a%16)
theorem ZM (right:Bool)(a b:Int)(ha:B8 a)(hb:B8 b):B8 (ZY right a b):=by
 have a0:=ha.1;have a1:=ha.2;have b0:=hb.1;have b1:=hb.2
 cases right<;>(simp only[ZY,B8,if_true,if_false,Bool.false_eq_true];omega)
theorem QCj (right:Bool)(a b:Int)(ha:B8 a)(hb:B8 b):B8 (QDf right a b):=by
 have a0:=ha.1;have a1:=ha.2;have b0:=hb.1;have b1:=hb.2
 cases right<;>(simp only[QDf,B8,if_true,if_false,Bool.false_eq_true];omega)
theorem QOL:∀ x:Fin 256,bits .and .u8 (x.val:Int) 15=(x.val:Int)%16∧bits .andNot .u8 (x.val:Int) 15=(x.val:Int) / 16*16:=by decide +kernel
theorem QI1 (b:Int)(hb:B8 b):bits .and .u8 b 15=b%16∧bits .andNot .u8 b 15=b / 16*16 :=
 QB (P:=fun b=>bits .and .u8 b 15=b%16∧bits .andNot .u8 b 15=b / 16*16) QOL b hb.1 hb.2
theorem QMJ:∀ x y:Fin 16,bits .or .u8 ((x.val:Int)*16) (y.val:Int)=(x.val:Int)*16+(y.val:Int):=by decide +kernel
theorem QAo (x y:Int)(h0:0≤x)(h1:x < 16)(h2:0≤y)(h3:y < 16):bits .or .u8 (x*16) y=x*16+y:=by
 have:=QMJ ⟨x.toNat,by omega⟩ ⟨y.toNat,by omega⟩
 simpa [Int.toNat_of_nonneg h0,Int.toNat_of_nonneg h2] using this
def zr (n b lines f:Int):Int:=mkM ((n==7)&&isM b n) (!isM b n) (isM lines 5) true (isM lines 3) (!isM b n) false (isM f 0)
theorem zc (n b lines f:Int):B8 (zr n b lines f):=QW ..
def QHv (lines f:Int):Int:=mkM false false (isM lines 5) true (isM lines 3) false false (isM f 0)
theorem or16:∀ c:Bool,bits .or .u8 16 (one c)=mkM false false false true false false false c:=by decide +kernel
theorem QNt (lines f:Int)(hf:B8 f):Xc (bits .or .u8 16 (bits .and .u8 f 1)) lines 40=QHv lines f:=by
 obtain⟨z0,z1,z2,z3,z4,z5,z6,z7⟩:isM 40 0=false∧isM 40 1=false∧isM 40 2=false∧isM 40 3=true∧isM 40 4=false∧isM 40 5=true∧isM 40 6=false∧isM 40 7=false:=by decide +kernel
 rw[zj f hf,or16]
 obtain⟨e7,e6,e5,e4,e3,e2,e1,e0⟩:=Xv false false false true false false false (isM f 0)
 unfold Xc QHv
 rw[z0,z1,z2,z3,z4,z5,z6,z7,e0,e1,e2,e4,e6,e7]
 rfl
theorem QOB:∀ y x c:Bool,bits .or .u8 (bits .or .u8 (mkM false false y true x false false c) 64) 4=mkM false true y true x true false c∧bits .or .u8 (mkM false false y true x false false c) 128=mkM true false y true x false false c:=by decide +kernel
theorem QSs (n b lines f:Int)(h:isM b n=false):bits .or .u8 (bits .or .u8 (QHv lines f) 64) 4=zr n b lines f:=by
 unfold zr QHv
 rw[h,(QOB _ _ _).1]
 simp
theorem QLs (b lines f:Int)(h:isM b 7=true):bits .or .u8 (QHv lines f) 128=zr 7 b lines f:=by
 unfold zr QHv
 rw[h,(QOB _ _ _).2]
 rfl
theorem QQ6 (n b lines f:Int)(h:isM b n=true)(hn:¬n=7):QHv lines f=zr n b lines f:=by
 unfold zr QHv
 rw[h,show (n==7)=false from by simpa using hn]
 rfl
def QEt (a b:Int):Int:=(a+b)%256
theorem QFD (a b:Int):B8 (QEt a b):=by unfold QEt B8;omega
def lessM (a b:Int):Int:=if isM (QE a b false) 4 then (QQ a b false+255)%256 else QQ a b false
theorem QD9 (a b:Int):B8 (lessM a b):=by
 unfold lessM
 split
 · unfold B8;omega
 · exact J5 ..
theorem QGc (a b:Int)(h:isM (QE a b false) 4=true):(QQ a b false+255)%256=lessM a b:=by unfold lessM;rw[if_pos h]
theorem QJ4 (a b:Int)(h:isM (QE a b false) 4=true):(QQ a b false-1)%256=lessM a b:=by
 rw[←QGc a b h];omega
theorem QIQ (a b:Int)(h:isM (QE a b false) 4=false):QQ a b false=lessM a b:=by unfold lessM;rw[if_neg (by simp[h])]
def moveF (a b bc f:Int):Int:=mkM (isM f 7) (isM f 6) (isM (QEt a b) 1) false (isM (QEt a b) 3) (bc != 0) false (isM f 0)
def Zu (a b bc f:Int):Int :=
 mkM (isM (QE a b false) 7) (isM (QE a b false) 6) (isM (lessM a b) 1) (isM (QE a b false) 4) (isM (lessM a b) 3) (bc != 0) true (isM f 0)
def Qs (b k left:Int):Int :=
 mkM (isM left 7) (left==0) (isM left 5) (decide (255 < k)) (isM left 3) (jj (Zf (k%8) left)) (isM b 7) (decide (255 < k))
def byC (c s:Int):Int:=(c+s)%256
theorem QIe (c s:Int):B8 (byC c s):=by unfold byC B8;omega
theorem jR (a b bc f:Int):B8 (moveF a b bc f):=QW ..
theorem jY (a b bc f:Int):B8 (Zu a b bc f):=QW ..
theorem XE (b k left:Int):B8 (Qs b k left):=QW ..
def Ji (kind f:Int):Bool :=
 if kind=0 then isM f 2 else if kind=1 then isM f 2&&!isM f 6 else if kind=2 then !isM f 6 else if kind=3 then !isM f 6 else false
theorem QEe (kind f:Int)(h:kind < 0∨4≤kind):Ji kind f=false:=by
 unfold Ji
 repeat (rw[if_neg (by omega)])
theorem QNA (a b:Int)(ha:B8 a)(hb:B8 b):bits .xor .u8 a b=Zf a b:=by
 have q:=QI9 a b ha.1 ha.2 hb.1 hb.2
 have r:B8 (Zf a b):=J3 ..
 refine QIN _ _ q.1 q.2 r.1 r.2 fun n hn=>?_
 rw[QK2 a b n hn ha.1 ha.2 hb.1 hb.2]
 unfold Zf QCr
 rw[QLf _ _ _ _ _ _ _ _ n hn]
 refine QNM (fun n=>(isM a n ^^ isM b n)=[_,_,_,_,_,_,_,_].getD n false) ?_ n hn
 simp only[List.getD_cons_zero,List.getD_cons_succ,QFm]
 exact⟨rfl,rfl,rfl,rfl,rfl,rfl,rfl,rfl⟩
end Go.Proofs.YtkenebbjodcbcaaGreatDoor
