/- Contracts and facts that the claim's proof wants (several texts in one). -/
import Derived.Test.YtmgcgiecimnncaaGreatDoorTlG29
namespace Go.Proofs.YtmgcgiecimnncaaGreatDoor
open Go.RowKit
set_option linter.unusedVariables false
set_option linter.unusedSimpArgs false
set_option maxRecDepth 20000
set_option maxHeartbeats 20000000
def QBO (b:Int)(least:Nat):Nat→Int→List UInt8→List UInt8
 | 0,n,s=>s
 | f+1,n,s=>if 0 < n∨s.length < least∨s=[] then QBO b least f (n / b) (dg (n%b) :: s) else s
theorem QTc:∀ k:Fin 16,(⟨#[48,49,50,51,52,53,54,55,56,57,97,98,99,100,101,102]⟩:ByteArray).extract k.val (k.val+1)=⟨#[dg (k.val:Int)]⟩:=by decide +kernel
theorem QIQ (k:Int)(h0:0≤k)(h1:k < 16):(⟨#[48,49,50,51,52,53,54,55,56,57,97,98,99,100,101,102]⟩:ByteArray).extract k.toNat (k.toNat+1)=⟨#[dg k]⟩:=by
 have:=QTc ⟨k.toNat,by omega⟩
 rwa [show (((⟨k.toNat,by omega⟩:Fin 16).val:Nat):Int)=k by show (k.toNat:Int)=k;omega] at this
def QUr:Value→Nat
 | .string s=>s.size
 | _=>0
theorem XB (b:Int)(least g:Nat)(N:Int)(L:List UInt8)(h:0 < N∨L.length < least∨L=[]):QBO b least (g+1) N L=QBO b least g (N / b) (dg (N%b) :: L):=by
 show (if _ then _ else _)=_
 rw[if_pos h]
theorem Zq (b:Int)(least f:Nat)(N:Int)(L:List UInt8)(h:¬(0 < N∨L.length < least∨L=[])):QBO b least f N L=L:=by
 cases f with
 | zero=>rfl
 | succ f =>
   show (if _ then _ else _)=_
   rw[if_neg h]
theorem Xe (l:List UInt8):(⟨l.toArray⟩:ByteArray).size=l.length:=by show l.toArray.size=_;simp
theorem QAu {a b:ByteArray}(h:a=b):Ending.returned (.string a)=.returned (.string b):=by rw[h]
theorem QQi (N:Int)(g:Nat)(h:N < 16 ^ (g+1)):N / 16 < 16 ^ g:=by
 have:(16:Int) ^ (g+1)=16 ^ g*16:=Int.pow_succ ..
 omega
theorem QEi (N:Int)(g:Nat)(h:N < 10 ^ (g+1)):N / 10 < 10 ^ g:=by
 have:(10:Int) ^ (g+1)=10 ^ g*10:=Int.pow_succ ..
 omega
theorem QBz (a b:List UInt8):(⟨a.toArray⟩:ByteArray)++⟨b.toArray⟩=⟨(a++b).toArray⟩:=by
 apply ByteArray.ext
 simp
theorem QFd (n:Int)(least:Nat)(h0:0≤n)(h1:n≤65535)(hl:least≤8)(w:World) :
 Calls Tryz.prog 47 #[.int .i64 n,.int .i64 16,.int .i64 least] w fun e w'=>e=.returned (.string ⟨(QBO 16 least 8 n []).toArray⟩)∧Below w.heap.size w w':=by
 have h2:n < 16 ^ 8:=by omega
 go_enter Tryz.func47,Tryz.ntmps47
 go_wp2
 go_loopw [0,8] (fun i s wr=>∃ (N:Int) (L:List UInt8) (f:Nat),i=.int .i64 N∧s=.string ⟨L.toArray⟩∧0≤N∧N≤65535∧N < 16 ^ f∧L.length+f=8∧(f=0→L≠[])∧QBO 16 least f N L=QBO 16 least 8 n []∧Below w.heap.size w wr) (fun i s _=>8-QUr s)
 case atStart=>exact⟨n,[],8,rfl,rfl,h0,h1,h2,rfl,by omega,rfl,Below.refl _ _⟩
 case round =>
  obtain⟨N,L,f,rfl,rfl,a0,a1,a2,a3,a4,a5,aB⟩:=hrel
  have hs:=Xe L
  have HE:=Lib.hid a5
  have HB:=Lib.hid aB
  clear a5 aB h2
  by_cases hc:0 < N∨L.length < least∨L=[]
  · obtain⟨g,rfl⟩:∃ g,f=g+1:=by
     refine⟨f-1,?_⟩
     have:f≠0:=by
      intro hf
      subst hf
      rcases hc with h|h|h
      · simp at a2;omega
      · omega
      · exact a4 rfl h
     omega
    have HP:=Lib.hid (QQi N g a2)
    have HS:=Lib.hid (XB 16 least g N L hc)
    clear a2 a4
    have q0:0≤N%16:=by omega
    have q1:N%16 < 16:=by omega
    have hx:=QIQ (N%16) q0 q1
    have q2:(N%16+1).toNat=(N%16).toNat+1:=by omega
    have q3:IntKind.i64.wrap (N%16+1)=N%16+1:=by rw[IntKind.wrap_i64];omega
    have q4:N%16≤N%16+1:=by omega
    have q5:N%16+1≤16:=by omega
    have r0:0≤N / 16:=by omega
    have r1:N / 16≤65535:=by omega
    have HA:=Lib.hid (QBz [dg (N%16)] L)
    have HL:Hid (∀ wr',Below wr.heap.size wr wr'→Below w.heap.size w wr'):=Lib.hid fun wr' k=>HB.out.trans (k.mono HB.out.size)
    by_cases c1:0 < N
    · clear hc
      go_wp2
      go_region
      go_wp2
      go_roundw
      case rel=>exact⟨N / 16,dg (N%16) :: L,g,rfl,by rw[HA.out];rfl,r0,r1,HP.out,by simp;omega,fun _=>by simp,HS.out.symm.trans HE.out,HL.out _ (by repeat (first|exact Below.refl _ _|assumption|refine JF ?_ (by assumption)|refine Below.drew ?_|refine Below.alloc ?_ (by first|(simp;done)|(simp;omega)|omega) _|refine Below.setCell ?_ (by first|(simp;done)|(simp;omega)|omega) _))⟩
      case measure=>show 8-((⟨#[dg (N%16)]⟩:ByteArray)++⟨L.toArray⟩).size < 8-(⟨L.toArray⟩:ByteArray).size;rw[HA.out,hs,Xe];simp;omega
    · have c1:N≤0:=by omega
      by_cases c2:L.length < least
      · clear hc
        go_wp2
        go_region
        go_wp2
        go_roundw
        case rel=>exact⟨N / 16,dg (N%16) :: L,g,rfl,by rw[HA.out];rfl,r0,r1,HP.out,by simp;omega,fun _=>by simp,HS.out.symm.trans HE.out,HL.out _ (by repeat (first|exact Below.refl _ _|assumption|refine JF ?_ (by assumption)|refine Below.drew ?_|refine Below.alloc ?_ (by first|(simp;done)|(simp;omega)|omega) _|refine Below.setCell ?_ (by first|(simp;done)|(simp;omega)|omega) _))⟩
        case measure=>show 8-((⟨#[dg (N%16)]⟩:ByteArray)++⟨L.toArray⟩).size < 8-(⟨L.toArray⟩:ByteArray).size;rw[HA.out,hs,Xe];simp;omega
      · obtain rfl:L=[]:=by
         rcases hc with h|h|h
         · omega
         · exact absurd h c2
         · exact h
        clear hc
        have c2:least≤0:=by simpa using c2
        go_wp2
        go_region
        go_wp2
        go_roundw
        case rel=>exact⟨N / 16,dg (N%16) :: [],g,rfl,by show Value.string ((⟨#[dg (N%16)]⟩:ByteArray)++⟨([]:List UInt8).toArray⟩)=_;rw[HA.out];rfl,r0,r1,HP.out,by simp at a3 ⊢;omega,fun _=>by simp,HS.out.symm.trans HE.out,HL.out _ (by repeat (first|exact Below.refl _ _|assumption|refine JF ?_ (by assumption)|refine Below.drew ?_|refine Below.alloc ?_ (by first|(simp;done)|(simp;omega)|omega) _|refine Below.setCell ?_ (by first|(simp;done)|(simp;omega)|omega) _))⟩
        case measure=>show 8-((⟨#[dg (N%16)]⟩:ByteArray)++⟨([]:List UInt8).toArray⟩).size < 8-(⟨([]:List UInt8).toArray⟩:ByteArray).size;rw[HA.out,hs,Xe];simp
  · have HQ:=Lib.hid (Zq 16 least f N L hc)
    simp only[not_or] at hc
    obtain⟨c1,c2,c3⟩:=hc
    have c1:N≤0:=by omega
    clear a2 a4
    have c4:least≤L.length:=by omega
    clear c2
    have c5:decide (L.length < least)=false:=by simp;omega
    have c6:L.isEmpty=false:=by cases L with|nil=>exact absurd rfl c3|cons=>rfl
    clear c3
    go_wp2
    go_ret
    exact⟨QAu (by rw[←HE.out,HQ.out]),HB.out⟩
theorem qn (n:Int)(least:Nat)(h0:0≤n)(h1:n≤65535)(hl:least≤8)(w:World) :
 Calls Tryz.prog 47 #[.int .i64 n,.int .i64 10,.int .i64 least] w fun e w'=>e=.returned (.string ⟨(QBO 10 least 8 n []).toArray⟩)∧Below w.heap.size w w':=by
 have h2:n < 10 ^ 8:=by omega
 go_enter Tryz.func47,Tryz.ntmps47
 go_wp2
 go_loopw [0,8] (fun i s wr=>∃ (N:Int) (L:List UInt8) (f:Nat),i=.int .i64 N∧s=.string ⟨L.toArray⟩∧0≤N∧N≤65535∧N < 10 ^ f∧L.length+f=8∧(f=0→L≠[])∧QBO 10 least f N L=QBO 10 least 8 n []∧Below w.heap.size w wr) (fun i s _=>8-QUr s)
 case atStart=>exact⟨n,[],8,rfl,rfl,h0,h1,h2,rfl,by omega,rfl,Below.refl _ _⟩
 case round =>
  obtain⟨N,L,f,rfl,rfl,a0,a1,a2,a3,a4,a5,aB⟩:=hrel
  have hs:=Xe L
  have HE:=Lib.hid a5
  have HB:=Lib.hid aB
  clear a5 aB h2
  by_cases hc:0 < N∨L.length < least∨L=[]
  · obtain⟨g,rfl⟩:∃ g,f=g+1:=by
     refine⟨f-1,?_⟩
     have:f≠0:=by
      intro hf
      subst hf
      rcases hc with h|h|h
      · simp at a2;omega
      · omega
      · exact a4 rfl h
     omega
    have HP:=Lib.hid (QEi N g a2)
    have HS:=Lib.hid (XB 10 least g N L hc)
    clear a2 a4
    have q0:0≤N%10:=by omega
    have q1:N%10 < 10:=by omega
    have hx:=QIQ (N%10) q0 (by omega)
    have q2:(N%10+1).toNat=(N%10).toNat+1:=by omega
    have q3:IntKind.i64.wrap (N%10+1)=N%10+1:=by rw[IntKind.wrap_i64];omega
    have q4:N%10≤N%10+1:=by omega
    have q5:N%10+1≤16:=by omega
    have r0:0≤N / 10:=by omega
    have r1:N / 10≤65535:=by omega
    have HA:=Lib.hid (QBz [dg (N%10)] L)
    have HL:Hid (∀ wr',Below wr.heap.size wr wr'→Below w.heap.size w wr'):=Lib.hid fun wr' k=>HB.out.trans (k.mono HB.out.size)
    by_cases c1:0 < N
    · clear hc
      go_wp2
      go_region
      go_wp2
      go_roundw
      case rel=>exact⟨N / 10,dg (N%10) :: L,g,rfl,by rw[HA.out];rfl,r0,r1,HP.out,by simp;omega,fun _=>by simp,HS.out.symm.trans HE.out,HL.out _ (by repeat (first|exact Below.refl _ _|assumption|refine JF ?_ (by assumption)|refine Below.drew ?_|refine Below.alloc ?_ (by first|(simp;done)|(simp;omega)|omega) _|refine Below.setCell ?_ (by first|(simp;done)|(simp;omega)|omega) _))⟩
      case measure=>show 8-((⟨#[dg (N%10)]⟩:ByteArray)++⟨L.toArray⟩).size < 8-(⟨L.toArray⟩:ByteArray).size;rw[HA.out,hs,Xe];simp;omega
    · have c1:N≤0:=by omega
      by_cases c2:L.length < least
      · clear hc
        go_wp2
        go_region
        go_wp2
        go_roundw
        case rel=>exact⟨N / 10,dg (N%10) :: L,g,rfl,by rw[HA.out];rfl,r0,r1,HP.out,by simp;omega,fun _=>by simp,HS.out.symm.trans HE.out,HL.out _ (by repeat (first|exact Below.refl _ _|assumption|refine JF ?_ (by assumption)|refine Below.drew ?_|refine Below.alloc ?_ (by first|(simp;done)|(simp;omega)|omega) _|refine Below.setCell ?_ (by first|(simp;done)|(simp;omega)|omega) _))⟩
        case measure=>show 8-((⟨#[dg (N%10)]⟩:ByteArray)++⟨L.toArray⟩).size < 8-(⟨L.toArray⟩:ByteArray).size;rw[HA.out,hs,Xe];simp;omega
      · obtain rfl:L=[]:=by
         rcases hc with h|h|h
         · omega
         · exact absurd h c2
         · exact h
        clear hc
        have c2:least≤0:=by simpa using c2
        go_wp2
        go_region
        go_wp2
        go_roundw
        case rel=>exact⟨N / 10,dg (N%10) :: [],g,rfl,by show Value.string ((⟨#[dg (N%10)]⟩:ByteArray)++⟨([]:List UInt8).toArray⟩)=_;rw[HA.out];rfl,r0,r1,HP.out,by simp at a3 ⊢;omega,fun _=>by simp,HS.out.symm.trans HE.out,HL.out _ (by repeat (first|exact Below.refl _ _|assumption|refine JF ?_ (by assumption)|refine Below.drew ?_|refine Below.alloc ?_ (by first|(simp;done)|(simp;omega)|omega) _|refine Below.setCell ?_ (by first|(simp;done)|(simp;omega)|omega) _))⟩
        case measure=>show 8-((⟨#[dg (N%10)]⟩:ByteArray)++⟨([]:List UInt8).toArray⟩).size < 8-(⟨([]:List UInt8).toArray⟩:ByteArray).size;rw[HA.out,hs,Xe];simp
  · have HQ:=Lib.hid (Zq 10 least f N L hc)
    simp only[not_or] at hc
    obtain⟨c1,c2,c3⟩:=hc
    have c1:N≤0:=by omega
    clear a2 a4
    have c4:least≤L.length:=by omega
    clear c2
    have c5:decide (L.length < least)=false:=by simp;omega
    have c6:L.isEmpty=false:=by cases L with|nil=>exact absurd rfl c3|cons=>rfl
    clear c3
    go_wp2
    go_ret
    exact⟨QAu (by rw[←HE.out,HQ.out]),HB.out⟩
theorem QWm (n:Int)(h0:0≤n)(h1:n≤255):QBO 16 2 8 n []=[dg (n / 16),dg (n%16)]:=by
 rw[XB _ _ _ _ _ (.inr (.inr rfl)),XB _ _ _ _ _ (.inr (.inl (by simp))),Zq _ _ _ _ _ (by simp;omega),show n / 16%16=n / 16 by omega]
theorem QWU (n:Int)(h0:0≤n)(h1:n≤65535):QBO 16 4 8 n []=[dg (n / 4096),dg (n / 256%16),dg (n / 16%16),dg (n%16)]:=by
 rw[XB _ _ _ _ _ (.inr (.inr rfl)),XB _ _ _ _ _ (.inr (.inl (by simp))),XB _ _ _ _ _ (.inr (.inl (by simp))),XB _ _ _ _ _ (.inr (.inl (by simp))),Zq _ _ _ _ _ (by simp;omega),show n / 16 / 16 / 16%16=n / 4096 by omega,show n / 16 / 16%16=n / 256%16 by omega]
theorem QJA (n:Int)(h0:0≤n)(h1:n≤999):QBO 10 1 8 n []=QDj n:=by
 unfold QDj
 rw[XB _ _ _ _ _ (.inr (.inr rfl))]
 by_cases c1:n < 10
 · rw[if_pos c1,Zq _ _ _ _ _ (by simp;omega),show n%10=n by omega]
 rw[if_neg c1,XB _ _ _ _ _ (.inl (by omega))]
 by_cases c2:n < 100
 · rw[if_pos c2,Zq _ _ _ _ _ (by simp;omega),show n / 10%10=n / 10 by omega]
 rw[if_neg c2,XB _ _ _ _ _ (.inl (by omega)),Zq _ _ _ _ _ (by simp;omega),show n / 10 / 10%10=n / 100 by omega]
theorem QIo (n:Int)(d:Nat)(R:List UInt8)(h0:0≤n)(h1:n≤65535)(hd:d≤8)(hR:QBO 16 d 8 n []=R)(hl:R.length≤8)(w:World) :
 Calls Tryz.prog 22 #[.int .i64 n,.int .i64 d] w fun e w'=>e=.returned (.string ⟨(R++[104]).toArray⟩)∧Below w.heap.size w w':=by
 have hk:=QFd n d h0 h1 hd
 rw[hR] at hk
 have hk:=Lib.hid hk
 have hs:=Xe R
 have HA:=Lib.hid (QBz R [104])
 clear hR
 have q1:max (d:Int) 0=(d:Int):=by omega
 have q2:min (d:Int) 8=(d:Int):=by omega
 have q3:(0:Int)≤(d:Int):=by omega
 go_enter Tryz.func22,Tryz.ntmps22
 go_wp2_with (first
  | (go_at_call 47;refine (hk.out _).mono ?_;rintro e w' ⟨rfl,hb⟩;have hsz:=hb.size))
 go_ret
 exact⟨QAu HA.out,(by repeat (first|exact Below.refl _ _|assumption|refine JF ?_ (by assumption)|refine Below.drew ?_|refine Below.alloc ?_ (by first|(simp;done)|(simp;omega)|omega) _|refine Below.setCell ?_ (by first|(simp;done)|(simp;omega)|omega) _))⟩
theorem QCU (n:Int)(h0:0≤n)(h1:n≤255)(w:World) :
 Calls Tryz.prog 22 #[.int .i64 n,.int .i64 2] w fun e w'=>e=.returned (.string ⟨(QEw n).toArray⟩)∧Below w.heap.size w w' :=
 QIo n 2 [dg (n / 16),dg (n%16)] h0 (by omega) (by omega) (QWm n h0 h1) (by simp) w
theorem QGV (n:Int)(h0:0≤n)(h1:n≤65535)(w:World) :
 Calls Tryz.prog 22 #[.int .i64 n,.int .i64 4] w fun e w'=>e=.returned (.string ⟨(QBC n).toArray⟩)∧Below w.heap.size w w' :=
 QIo n 4 [dg (n / 4096),dg (n / 256%16),dg (n / 16%16),dg (n%16)] h0 h1 (by omega) (QWU n h0 h1) (by simp) w
theorem QGJ (n:Int)(h0:-999≤n)(h1:n≤999)(w:World) :
 Calls Tryz.prog 100 #[.int .i64 n] w fun e w'=>e=.returned (.string ⟨(ZI n).toArray⟩)∧Below w.heap.size w w':=by
 unfold ZI
 by_cases c:n < 0
 · rw[if_pos c]
   have hk:=qn (-n) 1 (by omega) (by omega) (by omega)
   rw[QJA (-n) (by omega) (by omega)] at hk
   have hk:=Lib.hid hk
   have hl:=ZP (-n)
   generalize QDj (-n)=D at *
   have hs:=Q4 D
   have HA:=Lib.hid (Xu [45] D)
   go_enter Tryz.func100,Tryz.ntmps100
   go_wp2_with (first
    | (go_at_call 47;refine (hk.out _).mono ?_;rintro e w' ⟨rfl,hb⟩;have hsz:=hb.size))
   go_ret
   exact⟨Qa HA.out,(by repeat (first|exact Below.refl _ _|assumption|refine JF ?_ (by assumption)|refine Below.drew ?_|refine Below.alloc ?_ (by first|(simp;done)|(simp;omega)|omega) _|refine Below.setCell ?_ (by first|(simp;done)|(simp;omega)|omega) _))⟩
 · rw[if_neg c]
   have c':0≤n:=by omega
   have hk:=qn n 1 (by omega) (by omega) (by omega)
   rw[QJA n (by omega) (by omega)] at hk
   have hk:=Lib.hid hk
   have hl:=ZP n
   generalize QDj n=D at *
   have hs:=Q4 D
   have HA:=Lib.hid (Xu [43] D)
   clear c
   go_enter Tryz.func100,Tryz.ntmps100
   go_wp2_with (first
    | (go_at_call 47;refine (hk.out _).mono ?_;rintro e w' ⟨rfl,hb⟩;have hsz:=hb.size))
   go_ret
   exact⟨Qa HA.out,(by repeat (first|exact Below.refl _ _|assumption|refine JF ?_ (by assumption)|refine Below.drew ?_|refine Below.alloc ?_ (by first|(simp;done)|(simp;omega)|omega) _|refine Below.setCell ?_ (by first|(simp;done)|(simp;omega)|omega) _))⟩
theorem zG (p:Int)(w:World) :
 Calls Tryz.prog 74 #[.int .i64 p] w fun e w'=>e=.returned (.string ⟨[105,UInt8.ofNat (ixC p)].toArray⟩)∧w=w':=by
 unfold ixC
 by_cases h3:p=3
 · subst h3
   go_enter Tryz.func74,Tryz.ntmps74
   go_wp2
   go_ret
   exact⟨rfl,rfl⟩
 by_cases h5:p=5
 · subst h5
   go_enter Tryz.func74,Tryz.ntmps74
   go_wp2
   go_ret
   exact⟨rfl,rfl⟩
 rw[if_neg (by omega)]
 have e3:(p==3)=false:=by simpa using h3
 have e5:(p==5)=false:=by simpa using h5
 clear h3 h5
 go_enter Tryz.func74,Tryz.ntmps74
 go_wp2
 go_ret
 exact⟨rfl,rfl⟩
theorem QEx (p d:Int)(hd:B8 d)(w:World) :
 Calls Tryz.prog 66 #[.int .i64 p,.int .u8 d] w fun e w'=>e=.returned (.string ⟨(QBQ p d).toArray⟩)∧Below w.heap.size w w':=by
 have hb:=QAl d hd
 have k1:=Lib.hid (fun w=>zG p w)
 have k2:=Lib.hid (fun w=>QDd d hd.1 hd.2 w)
 have k3:=Lib.hid (fun w=>QGJ (JL d) (by omega) (by omega) w)
 have s2:=Xp (JL d)
 have s1:=Q4 (ZI (JL d))
 unfold QBQ
 generalize ZI (JL d)=G at *
 have s3:(⟨#[105,UInt8.ofNat (ixC p)]⟩:ByteArray).size=2:=rfl
 go_enter Tryz.func66,Tryz.ntmps66
 go_wp2_with (first
  | (go_at_call 74;refine (k1.out _).mono ?_;rintro e w' ⟨rfl,rfl⟩)
  | (go_at_call 101;refine (k2.out _).mono ?_;rintro e w' ⟨rfl,rfl⟩)
  | (go_at_call 100;refine (k3.out _).mono ?_;rintro e w' ⟨rfl,hb⟩;have hsz:=hb.size))
 go_ret
 refine⟨Qa ?_,(by repeat (first|exact Below.refl _ _|assumption|refine JF ?_ (by assumption)|refine Below.drew ?_|refine Below.alloc ?_ (by first|(simp;done)|(simp;omega)|omega) _|refine Below.setCell ?_ (by first|(simp;done)|(simp;omega)|omega) _))⟩
 show (⟨[40].toArray⟩++⟨[105,UInt8.ofNat (ixC p)].toArray⟩++⟨G.toArray⟩++⟨[41].toArray⟩:ByteArray)=_
 rw[Xu,Xu,Xu]
 simp
theorem QHt {W w1:World}(hb:Below W.heap.size W w1):(∀ b o,b < W.heap.size→w1.cell? ⟨b,o,none⟩=W.cell? ⟨b,o,none⟩)∧(∀ b o,b < W.heap.size→w1.frozen? ⟨b,o,none⟩=W.frozen? ⟨b,o,none⟩) :=
 ⟨fun b o h=>hb.cell (p:=⟨b,o,none⟩) h,fun b o h=>hb.frozen (p:=⟨b,o,none⟩) h⟩
theorem QD1 (pl d m:Int)(k:Nat):(⟨(tok pl d m k).toArray⟩:ByteArray)=sy pl d m [k]:=by
 unfold sy
 rw[QAV,QG5,List.append_nil]
theorem QGx (pl c d m le sk:Int)(h0:0≤m)(h1:m≤65535)(w:World) :
 Calls Tryz.prog 72 #[opV pl c d m le sk] w fun e w'=>e=.returned (.string (sy pl d m [256]))∧Below w.heap.size w w':=by
 have hk:=Lib.hid (fun W=>QCU (m%256) (by omega) (by omega) W)
 have HX:=Lib.hid (QD1 pl d m 256)
 have m0:0≤m%256:=by omega
 have m1:m%256≤255:=by omega
 go_enter Tryz.func72,Tryz.ntmps72
 go_wp2_with (first
  | (go_at_call 22;refine (hk.out _).mono ?_;rintro e w' ⟨rfl,hb⟩;have hsz:=hb.size))
 go_ret
 exact⟨Qa HX.out,(by repeat (first|exact Below.refl _ _|assumption|refine JF ?_ (by assumption)|refine Below.drew ?_|refine Below.alloc ?_ (by first|(simp;done)|(simp;omega)|omega) _|refine Below.setCell ?_ (by first|(simp;done)|(simp;omega)|omega) _))⟩
theorem qI (pl c d m le sk:Int)(h0:0≤m)(h1:m≤65535)(w:World) :
 Calls Tryz.prog 69 #[opV pl c d m le sk] w fun e w'=>e=.returned (.string (sy pl d m [257]))∧Below w.heap.size w w':=by
 have hk:=Lib.hid (fun W=>QGV m (by omega) (by omega) W)
 have HX:=Lib.hid (QD1 pl d m 257)
 go_enter Tryz.func69,Tryz.ntmps69
 go_wp2_with (first
  | (go_at_call 22;refine (hk.out _).mono ?_;rintro e w' ⟨rfl,hb⟩;have hsz:=hb.size))
 go_ret
 exact⟨Qa HX.out,(by repeat (first|exact Below.refl _ _|assumption|refine JF ?_ (by assumption)|refine Below.drew ?_|refine Below.alloc ?_ (by first|(simp;done)|(simp;omega)|omega) _|refine Below.setCell ?_ (by first|(simp;done)|(simp;omega)|omega) _))⟩
theorem QHc (pl c d m le sk:Int)(h0:0≤m)(h1:m≤65535)(w:World) :
 Calls Tryz.prog 70 #[opV pl c d m le sk] w fun e w'=>e=.returned (.string (sy pl d m [258]))∧Below w.heap.size w w':=by
 have hb:B8 (m%256):=⟨by omega,by omega⟩
 have hs:=QAl (m%256) hb
 have ks:=Lib.hid (fun w=>QDd (m%256) hb.1 hb.2 w)
 have kn:=Lib.hid (fun W=>QGJ (JL (m%256)+2) (by omega) (by omega) W)
 have HX:=Lib.hid (QD1 pl d m 258)
 have HY:=Lib.hid (show tok pl d m 258=36 :: ZI (JL (m%256)+2) from rfl)
 have gl:=Xp (JL (m%256)+2)
 have gs:=Q4 (ZI (JL (m%256)+2))
 have m0:0≤m%256:=by omega
 have m1:m%256≤255:=by omega
 generalize ZI (JL (m%256)+2)=G at *
 generalize JL (m%256)=X at *
 clear hb
 go_enter Tryz.func70,Tryz.ntmps70
 go_wp2_with (first
  | (go_at_call 101;refine (ks.out _).mono ?_;rintro e w' ⟨rfl,rfl⟩)
  | (go_at_call 100;refine (kn.out _).mono ?_;rintro e w' ⟨rfl,hb⟩;have hsz:=hb.size))
 go_ret
 exact⟨Qa (by rw[←HX.out,HY.out];exact Xu [36] G),(by repeat (first|exact Below.refl _ _|assumption|refine JF ?_ (by assumption)|refine Below.drew ?_|refine Below.alloc ?_ (by first|(simp;done)|(simp;omega)|omega) _|refine Below.setCell ?_ (by first|(simp;done)|(simp;omega)|omega) _))⟩
theorem zn (pl c d m le sk:Int)(h:pl=3∨pl=4)(w:World) :
 Calls Tryz.prog 73 #[opV pl c d m le sk] w fun e w'=>e=.returned (.bool true)∧Below w.heap.size w w':=by
 rcases h with rfl|rfl
 all_goals
  go_enter Tryz.func73,Tryz.ntmps73
  go_wp2
  go_ret
  exact⟨rfl,(by repeat (first|exact Below.refl _ _|assumption|refine JF ?_ (by assumption)|refine Below.drew ?_|refine Below.alloc ?_ (by first|(simp;done)|(simp;omega)|omega) _|refine Below.setCell ?_ (by first|(simp;done)|(simp;omega)|omega) _))⟩
theorem QAW (pl c d m le sk:Int)(h:¬(pl=3∨pl=4))(w:World) :
 Calls Tryz.prog 73 #[opV pl c d m le sk] w fun e w'=>e=.returned (.bool false)∧Below w.heap.size w w':=by
 simp only[not_or] at h
 have e3:(pl==3)=false:=by simpa using h.1
 have e4:(pl==4)=false:=by simpa using h.2
 clear h
 go_enter Tryz.func73,Tryz.ntmps73
 go_wp2
 go_ret
 exact⟨rfl,(by repeat (first|exact Below.refl _ _|assumption|refine JF ?_ (by assumption)|refine Below.drew ?_|refine Below.alloc ?_ (by first|(simp;done)|(simp;omega)|omega) _|refine Below.setCell ?_ (by first|(simp;done)|(simp;omega)|omega) _))⟩
theorem eight (y:Int)(hy:0≤y∧y≤7):y=0∨y=1∨y=2∨y=3∨y=4∨y=5∨y=6∨y=7:=by omega
theorem QKZ {pl:Int}(h:pl=3∨pl=4):on pl=true:=by
 rcases h with rfl|rfl<;>rfl
theorem QQ1 {pl:Int}(h:¬(pl=3∨pl=4)):on pl=false:=by
 simp only[not_or] at h
 simp[on,h.1,h.2]
theorem j8 (pl c d m le sk p:Int)(hp:0≤p∧p≤3)(w:World) :
 Calls Tryz.prog 68 #[opV pl c d m le sk,.int .i64 p,.string ⟨#[115,112]⟩] w fun e w'=>e=.returned (.string (sy pl d m (pairT pl p [115,112])))∧Below w.heap.size w w':=by
 have k1:=Lib.hid (fun w=>zG pl w)
 have HI:=Lib.hid (QLY pl d m)
 by_cases h:pl=3∨pl=4
 · have k2:=Lib.hid (fun w=>zn pl c d m le sk h w)
   have HO:=Lib.hid (QKZ h)
   clear h
   obtain rfl|rfl|rfl|rfl:p=0∨p=1∨p=2∨p=3:=by omega
   all_goals
    go_enter Tryz.func68,Tryz.ntmps68
    go_wp2_with (first
     | (go_at_call 73;refine (k2.out _).mono ?_;rintro e w' ⟨rfl,hb⟩;obtain⟨hce,hfe⟩:=QHt hb;have hsz:w.heap.size < w'.heap.size:=by (have hsz':=hb.size;(try simp at hsz');omega))
     | (go_at_call 74;refine (k1.out _).mono ?_;rintro e w' ⟨rfl,rfl⟩))
    go_ret
    refine⟨Qa ?_,(by repeat (first|exact Below.refl _ _|assumption|refine JF ?_ (by assumption)|refine Below.drew ?_|refine Below.alloc ?_ (by first|(simp;done)|(simp;omega)|omega) _|refine Below.setCell ?_ (by first|(simp;done)|(simp;omega)|omega) _))⟩
    unfold pairT
    rw[HO.out]
    first|exact HI.out|rfl
 · have k2:=Lib.hid (fun w=>QAW pl c d m le sk h w)
   have HO:=Lib.hid (QQ1 h)
   clear h
   obtain rfl|rfl|rfl|rfl:p=0∨p=1∨p=2∨p=3:=by omega
   all_goals
    go_enter Tryz.func68,Tryz.ntmps68
    go_wp2_with (first
     | (go_at_call 73;refine (k2.out _).mono ?_;rintro e w' ⟨rfl,hb⟩;obtain⟨hce,hfe⟩:=QHt hb;have hsz:w.heap.size < w'.heap.size:=by (have hsz':=hb.size;(try simp at hsz');omega))
     | (go_at_call 74;refine (k1.out _).mono ?_;rintro e w' ⟨rfl,rfl⟩))
    go_ret
    refine⟨Qa ?_,(by repeat (first|exact Below.refl _ _|assumption|refine JF ?_ (by assumption)|refine Below.drew ?_|refine Below.alloc ?_ (by first|(simp;done)|(simp;omega)|omega) _|refine Below.setCell ?_ (by first|(simp;done)|(simp;omega)|omega) _))⟩
    unfold pairT
    rw[HO.out]
    rfl
theorem QDC (pl c d m le sk p:Int)(hp:0≤p∧p≤3)(w:World) :
 Calls Tryz.prog 68 #[opV pl c d m le sk,.int .i64 p,.string ⟨#[97,102]⟩] w fun e w'=>e=.returned (.string (sy pl d m (pairT pl p [97,102])))∧Below w.heap.size w w':=by
 have k1:=Lib.hid (fun w=>zG pl w)
 have HI:=Lib.hid (QLY pl d m)
 by_cases h:pl=3∨pl=4
 · have k2:=Lib.hid (fun w=>zn pl c d m le sk h w)
   have HO:=Lib.hid (QKZ h)
   clear h
   obtain rfl|rfl|rfl|rfl:p=0∨p=1∨p=2∨p=3:=by omega
   all_goals
    go_enter Tryz.func68,Tryz.ntmps68
    go_wp2_with (first
     | (go_at_call 73;refine (k2.out _).mono ?_;rintro e w' ⟨rfl,hb⟩;obtain⟨hce,hfe⟩:=QHt hb;have hsz:w.heap.size < w'.heap.size:=by (have hsz':=hb.size;(try simp at hsz');omega))
     | (go_at_call 74;refine (k1.out _).mono ?_;rintro e w' ⟨rfl,rfl⟩))
    go_ret
    refine⟨Qa ?_,(by repeat (first|exact Below.refl _ _|assumption|refine JF ?_ (by assumption)|refine Below.drew ?_|refine Below.alloc ?_ (by first|(simp;done)|(simp;omega)|omega) _|refine Below.setCell ?_ (by first|(simp;done)|(simp;omega)|omega) _))⟩
    unfold pairT
    rw[HO.out]
    first|exact HI.out|rfl
 · have k2:=Lib.hid (fun w=>QAW pl c d m le sk h w)
   have HO:=Lib.hid (QQ1 h)
   clear h
   obtain rfl|rfl|rfl|rfl:p=0∨p=1∨p=2∨p=3:=by omega
   all_goals
    go_enter Tryz.func68,Tryz.ntmps68
    go_wp2_with (first
     | (go_at_call 73;refine (k2.out _).mono ?_;rintro e w' ⟨rfl,hb⟩;obtain⟨hce,hfe⟩:=QHt hb;have hsz:w.heap.size < w'.heap.size:=by (have hsz':=hb.size;(try simp at hsz');omega))
     | (go_at_call 74;refine (k1.out _).mono ?_;rintro e w' ⟨rfl,rfl⟩))
    go_ret
    refine⟨Qa ?_,(by repeat (first|exact Below.refl _ _|assumption|refine JF ?_ (by assumption)|refine Below.drew ?_|refine Below.alloc ?_ (by first|(simp;done)|(simp;omega)|omega) _|refine Below.setCell ?_ (by first|(simp;done)|(simp;omega)|omega) _))⟩
    unfold pairT
    rw[HO.out]
    rfl
theorem Xh {w:World} {p:Addr} {a b:Option Value}(h:w.cell? p=a)(e:a=b):w.cell? p=b:=h.trans e
theorem QRE {K:Nat} {a w:World}(h:Below K a w)(n:Nat):Below K a (w.drewN n):=⟨h.os,h.tape,h.output,h.size,h.block⟩
theorem QTn (W:World)(o:Obj)(t:TypeId)(cs:Array Value):Row ((W.alloc o).alloc (.cells cs t)) (W.heap.size+1) t cs:=by
 have:=Row.new (W.alloc o) t cs
 rwa [World.size_alloc] at this
theorem QOV (pl d m:Int)(k:Nat)(hk:k < 256):(⟨[105,UInt8.ofNat (ixC pl)].toArray⟩++⟨#[UInt8.ofNat k]⟩:ByteArray)=sy pl d m (ixT pl++[k]):=by
 rw[QLY pl d m,←QHX]
 congr 1
 exact Zk pl d m [k] (by simpa using hk)
theorem ZU (pl c d m le sk k:Int)(hc:B8 c)(hd:B8 d)(hk:0≤k∧k≤7)(w:World) :
 Calls Tryz.prog 44 #[opV pl c d m le sk,.int .i64 k] w fun e w'=>e=.returned (.string (sy pl d m (ZQ pl (JP pl c) k)))∧Below w.heap.size w w':=by
 have k1:=Lib.hid (fun w=>zG pl w)
 have k3:=fun w=>QFA pl c hc w
 have k6:∀ w,Calls Tryz.prog 74 #[.int .i64 pl] w fun e w'=>e=.returned (.string ⟨[105,UInt8.ofNat (ixC pl)].toArray⟩)∧w'=w:=fun w=>(zG pl w).mono fun _ _ h=>⟨h.1,h.2.symm⟩
 have k6:=Lib.hid k6
 have k4:=Lib.hid (fun w=>QEx pl d hd w)
 have HI:=Lib.hid (QEN pl d m)
 have HX4:=Lib.hid (QOV pl d m 104 (by omega))
 have HX5:=Lib.hid (QOV pl d m 108 (by omega))
 have he:=eight k hk
 clear hk hc hd
 unfold ZQ
 by_cases h:pl=3∨pl=4
 · have k2:=Lib.hid (fun w=>zn pl c d m le sk h w)
   have HO:=QKZ h
   rw[HO]
   clear h HO
   cases hn:JP pl c
   all_goals
    rw[hn] at k3
    have k5:=Lib.hid k3
    clear hn k3
    rcases he with rfl|rfl|rfl|rfl|rfl|rfl|rfl|rfl
    all_goals
     go_enter Tryz.func44,Tryz.ntmps44
     go_wp2_with fail
     refine (k2.out _).mono ?_
     rintro e w1 ⟨rfl,hb⟩
     have hrO:=((Row.new w 49 #[.int .i64 pl,.int .u8 c,.int .u8 d,.int .u16 m,.int .i64 le,.int .i64 sk]).alloc _).below hb (by simp;omega)
     have hrS:=(QTn w _ 9 #[.string ⟨#[98]⟩,.string ⟨#[99]⟩,.string ⟨#[100]⟩,.string ⟨#[101]⟩,.string ⟨#[104]⟩,.string ⟨#[108]⟩,.string ⟨#[40,104,108,41]⟩,.string ⟨#[97]⟩]).below hb (by simp)
     have o0:=Xh (hrO.cell 0) rfl
     have o1:=Xh (hrO.cell 1) rfl
     have o2:=Xh (hrO.cell 2) rfl
     have s0:=Xh (hrS.cell 0) rfl
     have s1:=Xh (hrS.cell 1) rfl
     have s2:=Xh (hrS.cell 2) rfl
     have s3:=Xh (hrS.cell 3) rfl
     have s4:=Xh (hrS.cell 4) rfl
     have s5:=Xh (hrS.cell 5) rfl
     have s6:=Xh (hrS.cell 6) rfl
     have s7:=Xh (hrS.cell 7) rfl
     have hB1:Below w.heap.size w w1:=(((Below.refl _ w).alloc (Nat.le_refl _) _).alloc (by simp) _).trans (hb.mono (by simp;omega))
     have hsz:w.heap.size < w1.heap.size:=hrO.lt
     have HB1:=Lib.hid hB1
     clear hrO hrS hb hB1
     go_wp2_with (first
      | (go_at_call 38;refine (k5.out _).mono ?_;rintro e w' ⟨rfl,rfl⟩)
      | (go_at_call 66;refine (k4.out _).mono ?_;rintro e w' ⟨rfl,hb⟩;have hsz:=hb.size)
      | (go_at_call 74;refine (k1.out _).mono ?_;rintro e w' ⟨rfl,rfl⟩))
     first
      | (go_ret
         refine⟨Qa ?_,by first|exact HB1.out|exact HB1.out.trans (hb.mono HB1.out.size)⟩
         first|exact HI.out|rfl)
      | (go_quiet ((go_at_call 74;exact Calls.quiet_of_same (k6.out _)))
         go_wp2
         go_ret
         refine⟨Qa ?_,?_⟩
         · first|exact HX4.out|exact HX5.out
         · exact QRE HB1.out _)
 · have k2:=Lib.hid (fun w=>QAW pl c d m le sk h w)
   have HO:=QQ1 h
   rw[HO]
   clear h HO
   have k5:=Lib.hid k3
   clear k3
   generalize JP pl c=nr at *
   rcases he with rfl|rfl|rfl|rfl|rfl|rfl|rfl|rfl
   all_goals
    go_enter Tryz.func44,Tryz.ntmps44
    go_wp2_with (first
     | (go_at_call 73;refine (k2.out _).mono ?_;rintro e w' ⟨rfl,hb⟩;obtain⟨hce,hfe⟩:=QHt hb;have hsz:w.heap.size < w'.heap.size:=by (have hsz':=hb.size;(try simp at hsz');omega))
     | (go_at_call 38;refine (k5.out _).mono ?_;rintro e w' ⟨rfl,rfl⟩))
    go_ret
    refine⟨Qa ?_,(by repeat (first|exact Below.refl _ _|assumption|refine JF ?_ (by assumption)|refine Below.drew ?_|refine Below.alloc ?_ (by first|(simp;done)|(simp;omega)|omega) _|refine Below.setCell ?_ (by first|(simp;done)|(simp;omega)|omega) _))⟩
    rfl
theorem QBk (pl k:Int)(l:List Nat)(h:l.length≤8):(pairT pl k l).length≤8:=by
 unfold pairT
 split
 · show 2≤8
   omega
 · refine Jv _ (fun t ht=>?_) k
   simp at ht
   rcases ht with rfl|rfl|rfl|rfl
   · simp
   · simp
   · simp
   · exact h
theorem QGd (pl:Int)(n:Bool)(k:Int):(ZQ pl n k).length≤10:=by
 have h:=Jv QL (by decide) k
 have hx:(ixT pl).length=2:=rfl
 unfold ZQ
 split
 · simp
 · split
   · rw[List.length_append];omega
   · omega
theorem QMn (k:Int)(hk:0≤k∧k≤7)(w:World) :
 Calls Tryz.prog 44 #[opV 0 0 0 0 0 0,.int .i64 k] w fun e w'=>e=.returned (.string (sb (pick QL k)))∧Below w.heap.size w w':=by
 have h:=ZU 0 0 0 0 0 0 k ⟨by omega,by omega⟩ ⟨by omega,by omega⟩ hk w
 rw[show ZQ 0 (JP 0 0) k=pick QL k from rfl,←Zk 0 0 0 _ (XM _ (by decide) _)] at h
 exact h
theorem QKl (k:Int)(hk:0≤k∧k≤3)(w:World) :
 Calls Tryz.prog 68 #[opV 0 0 0 0 0 0,.int .i64 k,.string ⟨#[115,112]⟩] w fun e w'=>e=.returned (.string (sb (pick QX k)))∧Below w.heap.size w w':=by
 have h:=j8 0 0 0 0 0 0 k hk w
 rw[show pairT 0 k [115,112]=pick QX k from rfl,←Zk 0 0 0 _ (XM _ (by decide) _)] at h
 exact h
theorem QLb (pl d m:Int)(l:List (List Nat))(h:∀ t∈l,∀ k∈t,k < 256)(i:Int):sy pl d m (pick l i)=sb (pick l i):=(Zk pl d m _ (XM l h i)).symm
def zA:List (List Nat):=[[110,111,112],[101,120,32,97,102,44,97,102,39],[100,106,110,122,32]++[258],[106,114,32]++[258]]
def zB (H:List Nat):List (List Nat):=[[108,100,32,40,98,99,41,44,97],[108,100,32,97,44,40,98,99,41],[108,100,32,40,100,101,41,44,97],[108,100,32,97,44,40,100,101,41],[108,100,32]++([40]++[257]++[41])++[44]++H,[108,100,32]++H++[44]++([40]++[257]++[41]),[108,100,32]++([40]++[257]++[41])++[44,97],[108,100,32,97,44]++([40]++[257]++[41])]
def zC:List (List Nat):=[[105,110,99,32],[100,101,99,32]]
theorem QJ0 (pl c d m le sk y z p q:Int)(hc:B8 c)(hd:B8 d)(h0:0≤m)(h1:m≤65535)(hy:0≤y∧y≤7)(hz:0≤z∧z≤7)(hp:0≤p∧p≤3)(hq:0≤q∧q≤1)(W:World) :
 Calls Tryz.prog 43 #[opV pl c d m le sk,.int .i64 y,.int .i64 z,.int .i64 p,.int .i64 q] W fun e W'=>e=.returned (.string (sy pl d m (qz pl (JP pl c) y z p q)))∧Below W.heap.size W W':=by
 have hH:=QBk pl 2 [115,112] (by decide)
 have hP:=QBk pl p [115,112] (by decide)
 have hR:=QGd pl (JP pl c) y
 have hC:=Jv QY (by decide) (y-4)
 have hZ:=Jv zC (by decide) q
 go_enter Tryz.func43,Tryz.ntmps43
 refine JA<|qQ [] (Many.begin W) fun w1 k1=>coR<|qR 1 [0] k1 fun w2 k2=>qC (j8 pl c d m le sk 2 (by omega) w2) k2 fun w3 k3=>qE [] k3 fun w4 k4=>coR<|qR 2 [0] k4 fun w5 k5=>qC (j8 pl c d m le sk p hp w5) k5 fun w6 k6=>qE [] k6 fun w7 k7=>coS<|qQ [] k7 fun w8 k8=>coB<|?_
 refine qQ [] k8 fun wb kb=>coI (z==0) (fun e=>?_) fun e0=>qQ [] kb fun wc kc=>coI (z==1) (fun e=>?_) fun e1=>qQ [] kc fun wd kd=>coI (z==2) (fun e=>?_) fun e2=>qQ [] kd fun we ke=>coI (z==3) (fun e=>?_) fun e3=>qQ [] ke fun wf kf=>coI (z==4) (fun e=>?_) fun e4=>qQ [] kf fun wg kg=>coI (z==5) (fun e=>?_) fun e5=>qQ [] kg fun wh kh=>coI (z==6) (fun e=>?_) fun e6=>JC<|eoB<|eoT ?_
 · obtain rfl:z=0:=by simpa using e
   refine qP 6 kb fun wd kd=>qD 0 [0,3] kd<|qDc 1 (QHc pl c d m le sk h0 h1 wd) kd fun we ke=>qT 2 ke (fun w' _=>xSy pl d m [100,106,110,122,32] [258])<|qDc 4 (QHc pl c d m le sk h0 h1 we) ke fun wf kf=>qT 5 kf (fun w' _=>xSy pl d m [106,114,32] [258])<|poE<|qE [] kf fun wg kg=>coS<|qQ [] kg fun wh kh=>coI (decide (y < 4)) (fun h4=>?_) fun h4=>JC<|eoT ?_
   · have h4:y < 4:=by simpa using h4
     exact coR<|qR 2 [] kh fun wi ki=>wM (Jm (ixL wf.heap.size 4 4 y (by omega) wi))<|wM (Jc (ldP (ki.row 1 (b:=wf.heap.size) (t:=9) (sv pl d m zA) (by kernel_rfl)) y ⟨hy.1,h4⟩))<|qE [] ki fun wj kj=>JE<|Je<|QG<|Je<|JR (.string (sy pl d m (pick zA y))) ⟨by rw[show qz pl (JP pl c) y 0 p q=pick zA y from (if_pos rfl).trans (if_pos h4)],kj.touch.below⟩
   · have h4:¬y < 4:=by simpa using h4
     refine qP 10 kh fun wi ki=>qD 0 [1,7] ki<|qT 2 ki (fun w' _=>Xb (egI _ _ _ _ _ _) (QJm y 4 (by omega) (by omega) _))<|qDn 0 2 (QD3 pl d m wi) ki (by kernel_rfl) fun wj kj=>qT 3 kj (fun w' _=>Jm (ixL wi.heap.size 8 8 (y-4) (by omega) _)) ?_
     exact qT 4 kj (fun w' hS=>Jc (ldP (hS.row 2 (b:=wi.heap.size) (t:=9) (sv pl d m QY) (by kernel_rfl)) (y-4) ⟨by omega,by show y-4 < 8;omega⟩))<|qT 5 kj (fun w' _=>xSy pl d m [106,114,32] (pick QY (y-4)))<|qT 6 kj (fun w' _=>xSy pl d m ([106,114,32]++pick QY (y-4)) [44])<|qDc 8 (QHc pl c d m le sk h0 h1 wj) kj fun wk kk =>
      qT 9 kk (fun w' _=>xSy pl d m ([106,114,32]++pick QY (y-4)++[44]) [258])<|poE<|qE [] kk fun wl kl=>JE<|QG<|Je<|JR (.string (sy pl d m ([106,114,32]++pick QY (y-4)++[44]++[258]))) ⟨by rw[show qz pl (JP pl c) y 0 p q=[106,114,32]++pick QY (y-4)++[44]++[258] from (if_pos rfl).trans (if_neg h4)],kl.touch.below⟩
 · obtain rfl:z=1:=by simpa using e
   refine coS<|qQ [] kc fun wd kd=>coI (q==0) (fun h=>?_) fun h=>JC<|eoT ?_
   · obtain rfl:q=0:=by simpa using h
     exact coR<|qR 1 [] kd fun we ke=>wM (xSy pl d m [108,100,32] (pairT pl p [115,112]))<|wM (xSy pl d m ([108,100,32]++pairT pl p [115,112]) [44])<|qR 1 [0] ke fun wf kf=>qC (qI pl c d m le sk h0 h1 wf) kf fun wg kg=>wM (xSy pl d m ([108,100,32]++pairT pl p [115,112]++[44]) [257])<|qE [] kg fun wh kh=>JE<|Je<|QG<|Je<|JR (.string (sy pl d m (qz pl (JP pl c) y 1 p 0))) ⟨rfl,kh.touch.below⟩
   · have h:¬q=0:=by simpa using h
     exact coR<|qR 1 [] kd fun we ke=>wM (xSy pl d m [97,100,100,32] (pairT pl 2 [115,112]))<|wM (xSy pl d m ([97,100,100,32]++pairT pl 2 [115,112]) [44])<|qR 1 [] ke fun wf kf=>wM (xSy pl d m ([97,100,100,32]++pairT pl 2 [115,112]++[44]) (pairT pl p [115,112]))<|qE [] kf fun wh kh=>JE<|QG<|Je<|JR (.string (sy pl d m ([97,100,100,32]++pairT pl 2 [115,112]++[44]++pairT pl p [115,112]))) ⟨by rw[show qz pl (JP pl c) y 1 p q=[97,100,100,32]++pairT pl 2 [115,112]++[44]++pairT pl p [115,112] from (if_neg (by decide)).trans ((if_pos rfl).trans (if_neg h))],kh.touch.below⟩
 · obtain rfl:z=2:=by simpa using e
   refine coR<|qR 1 [0] kd fun we ke=>qC (qI pl c d m le sk h0 h1 we) ke fun wf kf=>wM (xSy pl d m [40] [257])<|wM (xSy pl d m ([40]++[257]) [41])<|qE [] kf fun wg kg=>coR<|qR 1 [] kg fun wh kh=>?_
   refine wM (xSy pl d m [108,100,32] ([40]++[257]++[41]))<|wM (xSy pl d m ([108,100,32]++([40]++[257]++[41])) [44])<|qR 1 [] kh fun wi ki=>wM (xSy pl d m ([108,100,32]++([40]++[257]++[41])++[44]) (pairT pl 2 [115,112]))<|qR 1 [] ki fun wj kj=>wM (xSy pl d m [108,100,32] (pairT pl 2 [115,112]))<|wM (xSy pl d m ([108,100,32]++pairT pl 2 [115,112]) [44])<|qR 1 [] kj fun wk kk=>?_
   exact wM (xSy pl d m ([108,100,32]++pairT pl 2 [115,112]++[44]) ([40]++[257]++[41]))<|qR 1 [] kk fun wl kl=>wM (xSy pl d m [108,100,32] ([40]++[257]++[41]))<|wM (xSy pl d m ([108,100,32]++([40]++[257]++[41])) [44,97])<|qR 1 [] kl fun wm km=>wM (xSy pl d m [108,100,32,97,44] ([40]++[257]++[41]))<|qR 2 [] km fun wn kn =>
    wM (Jm (ixL wm.heap.size 8 8 y (by omega) wn))<|wM (Jc (ldP (kn.row 1 (b:=wm.heap.size) (t:=9) (sv pl d m (zB (pairT pl 2 [115,112]))) (by kernel_rfl)) y ⟨hy.1,by show y < 8;omega⟩))<|qE [] kn fun wo ko=>JE<|QG<|Je<|JR (.string (sy pl d m (qz pl (JP pl c) y 2 p q))) ⟨rfl,ko.touch.below⟩
 · obtain rfl:z=3:=by simpa using e
   exact coR<|qR 2 [] ke fun wf kf=>wM (Jm (ixL we.heap.size 2 2 q (by omega) wf))<|wM (Jc (ldP (kf.row 1 (b:=we.heap.size) (t:=9) (sv pl d m zC) (by kernel_rfl)) q ⟨hq.1,by show q < 2;omega⟩))<|qR 1 [] kf fun wg kg=>wM (xSy pl d m (pick zC q) (pairT pl p [115,112]))<|qE [] kg fun wh kh=>JE<|QG<|Je<|JR (.string (sy pl d m (qz pl (JP pl c) y 3 p q))) ⟨rfl,kh.touch.below⟩
 · obtain rfl:z=4:=by simpa using e
   exact coR<|qR 2 [0] kf fun wi ki=>qC (ZU pl c d m le sk y hc hd hy wi) ki fun wj kj=>wM (xSy pl d m [105,110,99,32] (ZQ pl (JP pl c) y))<|qE [] kj fun wk kk=>JE<|QG<|Je<|JR (.string (sy pl d m (qz pl (JP pl c) y 4 p q))) ⟨rfl,kk.touch.below⟩
 · obtain rfl:z=5:=by simpa using e
   exact coR<|qR 2 [0] kg fun wi ki=>qC (ZU pl c d m le sk y hc hd hy wi) ki fun wj kj=>wM (xSy pl d m [100,101,99,32] (ZQ pl (JP pl c) y))<|qE [] kj fun wk kk=>JE<|QG<|Je<|JR (.string (sy pl d m (qz pl (JP pl c) y 5 p q))) ⟨rfl,kk.touch.below⟩
 · obtain rfl:z=6:=by simpa using e
   exact qP 8 kh fun wi ki=>qD 0 [0,1,5] ki<|qDc 2 (ZU pl c d m le sk y hc hd hy wi) ki fun wj kj=>qT 3 kj (fun w' _=>xSy pl d m [108,100,32] (ZQ pl (JP pl c) y))<|qT 4 kj (fun w' _=>xSy pl d m ([108,100,32]++ZQ pl (JP pl c) y) [44])<|qDc 6 (QGx pl c d m le sk h0 h1 wj) kj fun wk kk=>qT 7 kk (fun w' _=>xSy pl d m ([108,100,32]++ZQ pl (JP pl c) y++[44]) [256])<|poE<|qE [] kk fun wl kl=>JE<|QG<|Je<|JR (.string (sy pl d m (qz pl (JP pl c) y 6 p q))) ⟨rfl,kl.touch.below⟩
 · have e0:¬z=0:=by simpa using e0
   have e1:¬z=1:=by simpa using e1
   have e2:¬z=2:=by simpa using e2
   have e3:¬z=3:=by simpa using e3
   have e4:¬z=4:=by simpa using e4
   have e5:¬z=5:=by simpa using e5
   have e6:¬z=6:=by simpa using e6
   obtain rfl:z=7:=by omega
   exact coR<|qR 2 [] kh fun wi ki=>wM (Jm (ixL wh.heap.size 8 8 y (by omega) wi))<|wM (Jc (ldP (ki.row 1 (b:=wh.heap.size) (t:=9) (sv pl d m QPh) (by kernel_rfl)) y ⟨hy.1,by show y < 8;omega⟩))<|qE [] ki fun wj kj=>JE<|JR (.string (sy pl d m (qz pl (JP pl c) y 7 p q))) ⟨rfl,kj.touch.below⟩
def tA (H:List Nat):List (List Nat):=[[114,101,116],[101,120,120],[106,112,32,40]++H++[41],[108,100,32,115,112,44]++H]
def tB (H:List Nat):List (List Nat):=[[106,112,32]++[257],[112,114,101,102,105,120],[111,117,116,32,40]++[256]++[41,44,97],[105,110,32,97,44,40]++[256]++[41],[101,120,32,40,115,112,41,44]++H,[101,120,32,100,101,44,104,108],[100,105],[101,105]]
theorem bs8 (a b c e f g h i:ByteArray)(w:World):(Instr.buildSlice 42 8 #[(0,.string a),(1,.string b),(2,.string c),(3,.string e),(4,.string f),(5,.string g),(6,.string h),(7,.string i)]).run Tryz.prog w=.ok (.slice (some ⟨w.heap.size,0,none⟩) 8 8) (w.alloc (.cells #[.string a,.string b,.string c,.string e,.string f,.string g,.string h,.string i] 9)):=by simp[go_sem]
theorem QRs (pl d m:Int)(H:List Nat)(w:World):(Instr.buildSlice 42 8 #[(0,.string (sy pl d m ([106,112,32]++[257]))),(1,.string ⟨#[112,114,101,102,105,120]⟩),(2,.string (sy pl d m ([111,117,116,32,40]++[256]++[41,44,97]))),(3,.string (sy pl d m ([105,110,32,97,44,40]++[256]++[41]))),(4,.string (sy pl d m ([101,120,32,40,115,112,41,44]++H))),(5,.string ⟨#[101,120,32,100,101,44,104,108]⟩),(6,.string ⟨#[100,105]⟩),(7,.string ⟨#[101,105]⟩)]).run Tryz.prog w=.ok (.slice (some ⟨w.heap.size,0,none⟩) 8 8) (w.alloc (.cells (sv pl d m (tB H)).toArray 9)):=(bs8 _ _ _ _ _ _ _ _ w).trans (by kernel_rfl)
theorem QR2 (y:Int)(hy:0≤y∧y≤7)(pl d m:Int)(w:World):Calls Tryz.prog 22 #[.int .i64 (8*y),.int .i64 2] w fun e w'=>e=.returned (.string (sy pl d m (pick QFc y)))∧Below w.heap.size w w':=by
 have e:(⟨(QEw (8*y)).toArray⟩:ByteArray)=sy pl d m (pick QFc y):=by
  have:y=0∨y=1∨y=2∨y=3∨y=4∨y=5∨y=6∨y=7:=by omega
  rcases this with rfl|rfl|rfl|rfl|rfl|rfl|rfl|rfl<;>rfl
 have h:=QCU (8*y) (by omega) (by omega) w
 rw[e] at h
 exact h
theorem QIA (pl c d m le sk y z p q:Int)(hc:B8 c)(hd:B8 d)(h0:0≤m)(h1:m≤65535)(hy:0≤y∧y≤7)(hz:0≤z∧z≤7)(hp:0≤p∧p≤3)(hq:0≤q∧q≤1)(W:World) :
 Calls Tryz.prog 46 #[opV pl c d m le sk,.int .i64 y,.int .i64 z,.int .i64 p,.int .i64 q] W fun e W'=>e=.returned (.string (sy pl d m (ZS pl y z p q)))∧Below W.heap.size W W':=by
 have hH:=QBk pl 2 [115,112] (by decide)
 have hP:=QBk pl p [97,102] (by decide)
 have hC:=Jv QY (by decide) y
 have hS:=Jv QBB (by decide) y
 have hV:=Jv QFc (by decide) y
 go_enter Tryz.func46,Tryz.ntmps46
 refine JA<|qQ [] (Many.begin W) fun w1 k1=>coR<|qR 1 [0] k1 fun w2 k2=>qC (j8 pl c d m le sk 2 (by omega) w2) k2 fun w3 k3=>qE [] k3 fun w7 k7=>coS<|qQ [] k7 fun w8 k8=>coB<|?_
 refine qQ [] k8 fun wb kb=>coI (z==0) (fun e=>?_) fun e0=>qQ [] kb fun wc kc=>coI (z==1) (fun e=>?_) fun e1=>qQ [] kc fun wd kd=>coI (z==2) (fun e=>?_) fun e2=>qQ [] kd fun we ke=>coI (z==3) (fun e=>?_) fun e3=>qQ [] ke fun wf kf=>coI (z==4) (fun e=>?_) fun e4=>qQ [] kf fun wg kg=>coI (z==5) (fun e=>?_) fun e5=>qQ [] kg fun wh kh=>coI (z==6) (fun e=>?_) fun e6=>JC<|eoB<|eoT ?_
 · obtain rfl:z=0:=by simpa using e
   exact coR<|qCn (QD3 pl d m wb) kb fun wi ki=>qR 1 [] ki fun wj kj=>wM (Jm (ixL wb.heap.size 8 8 y (by omega) wj))<|wM (Jc (ldP (kj.row 1 (b:=wb.heap.size) (t:=9) (sv pl d m QY) (by kernel_rfl)) y ⟨hy.1,by show y < 8;omega⟩))<|wM (xSy pl d m [114,101,116,32] (pick QY y))<|qE [] kj fun wk kk=>JE<|QG<|Je<|JR (.string (sy pl d m (ZS pl y 0 p q))) ⟨rfl,kk.touch.below⟩
 · obtain rfl:z=1:=by simpa using e
   refine coS<|qQ [] kc fun wd kd=>coI (q==0) (fun h=>?_) fun h=>JC<|eoT ?_
   · obtain rfl:q=0:=by simpa using h
     exact coR<|qR 2 [0] kd fun we ke=>qC (QDC pl c d m le sk p hp we) ke fun wf kf=>wM (xSy pl d m [112,111,112,32] (pairT pl p [97,102]))<|qE [] kf fun wg kg=>JE<|Je<|QG<|Je<|JR (.string (sy pl d m (ZS pl y 1 p 0))) ⟨rfl,kg.touch.below⟩
   · have h:¬q=0:=by simpa using h
     exact coR<|qR 1 [] kd fun we ke=>wM (xSy pl d m [106,112,32,40] (pairT pl 2 [115,112]))<|wM (xSy pl d m ([106,112,32,40]++pairT pl 2 [115,112]) [41])<|qR 1 [] ke fun wf kf=>wM (xSy pl d m [108,100,32,115,112,44] (pairT pl 2 [115,112]))<|qR 2 [] kf fun wg kg=>wM (Jm (ixL wf.heap.size 4 4 p (by omega) wg))<|wM (Jc (ldP (kg.row 1 (b:=wf.heap.size) (t:=9) (sv pl d m (tA (pairT pl 2 [115,112]))) (by kernel_rfl)) p ⟨hp.1,by show p < 4;omega⟩)) <|
      qE [] kg fun wh kh=>JE<|QG<|Je<|JR (.string (sy pl d m (pick (tA (pairT pl 2 [115,112])) p))) ⟨by rw[show ZS pl y 1 p q=pick (tA (pairT pl 2 [115,112])) p from (if_neg (by decide)).trans ((if_pos rfl).trans (if_neg h))],kh.touch.below⟩
 · obtain rfl:z=2:=by simpa using e
   exact qP 9 kd fun wi ki=>qD 0 [1,6] ki<|qDn 0 1 (QD3 pl d m wi) ki (by kernel_rfl) fun wj kj=>qT 2 kj (fun w' _=>Jm (ixL wi.heap.size 8 8 y (by omega) _))<|qT 3 kj (fun w' hS=>Jc (ldP (hS.row 1 (b:=wi.heap.size) (t:=9) (sv pl d m QY) (by kernel_rfl)) y ⟨hy.1,by show y < 8;omega⟩))<|qT 4 kj (fun w' _=>xSy pl d m [106,112,32] (pick QY y)) <|
    qT 5 kj (fun w' _=>xSy pl d m ([106,112,32]++pick QY y) [44])<|qDc 7 (qI pl c d m le sk h0 h1 wj) kj fun wk kk=>qT 8 kk (fun w' _=>xSy pl d m ([106,112,32]++pick QY y++[44]) [257])<|poE<|qE [] kk fun wl kl=>JE<|QG<|Je<|JR (.string (sy pl d m (ZS pl y 2 p q))) ⟨rfl,kl.touch.below⟩
 · obtain rfl:z=3:=by simpa using e
   refine qP 15 ke fun wi ki=>qD 0 [0,3,7,11,14] ki<|qT 12 ki (fun w' _=>xSy pl d m [101,120,32,40,115,112,41,44] (pairT pl 2 [115,112]))<|qDc 1 (qI pl c d m le sk h0 h1 wi) ki fun wj kj=>qT 2 kj (fun w' _=>xSy pl d m [106,112,32] [257])<|qDc 4 (QGx pl c d m le sk h0 h1 wj) kj fun wk kk=>qT 5 kk (fun w' _=>xSy pl d m [111,117,116,32,40] [256])<|qT 6 kk (fun w' _=>xSy pl d m ([111,117,116,32,40]++[256]) [41,44,97])<|qDc 8 (QGx pl c d m le sk h0 h1 wk) kk fun wl kl=>?_
   refine qT 9 kl (fun w' _=>xSy pl d m [105,110,32,97,44,40] [256])<|qT 10 kl (fun w' _=>xSy pl d m ([105,110,32,97,44,40]++[256]) [41])<|zO 13 (soX (V:=.slice (some ⟨wl.heap.size,0,none⟩) 8 8) (kl.allocO _) (X7 (QRs pl d m (pairT pl 2 [115,112]) wl))<|poE ?_)
   have km:=kl.alloc 9 (sv pl d m (tB (pairT pl 2 [115,112]))).toArray
   exact wM (Jm (ixL wl.heap.size 8 8 y (by omega) _))<|wM (Jc (ldP (km.row 1 (b:=wl.heap.size) (t:=9) (sv pl d m (tB (pairT pl 2 [115,112]))) (by kernel_rfl)) y ⟨hy.1,by show y < 8;omega⟩))<|qE [] km fun wn kn=>JE<|QG<|Je<|JR (.string (sy pl d m (ZS pl y 3 p q))) ⟨rfl,kn.touch.below⟩
 · obtain rfl:z=4:=by simpa using e
   exact qP 9 kf fun wi ki=>qD 0 [1,6] ki<|qDn 0 1 (QD3 pl d m wi) ki (by kernel_rfl) fun wj kj=>qT 2 kj (fun w' _=>Jm (ixL wi.heap.size 8 8 y (by omega) _))<|qT 3 kj (fun w' hS=>Jc (ldP (hS.row 1 (b:=wi.heap.size) (t:=9) (sv pl d m QY) (by kernel_rfl)) y ⟨hy.1,by show y < 8;omega⟩))<|qT 4 kj (fun w' _=>xSy pl d m [99,97,108,108,32] (pick QY y)) <|
    qT 5 kj (fun w' _=>xSy pl d m ([99,97,108,108,32]++pick QY y) [44])<|qDc 7 (qI pl c d m le sk h0 h1 wj) kj fun wk kk=>qT 8 kk (fun w' _=>xSy pl d m ([99,97,108,108,32]++pick QY y++[44]) [257])<|poE<|qE [] kk fun wl kl=>JE<|QG<|Je<|JR (.string (sy pl d m (ZS pl y 4 p q))) ⟨rfl,kl.touch.below⟩
 · obtain rfl:z=5:=by simpa using e
   refine coS<|qQ [] kg fun wd kd=>coI (q==0) (fun h=>?_) fun h=>JC<|eoT<|coS<|qQ [] kd fun we ke=>coI (p==0) (fun g=>?_) fun g=>JC<|eoT ?_
   · obtain rfl:q=0:=by simpa using h
     exact coR<|qR 2 [0] kd fun we ke=>qC (QDC pl c d m le sk p hp we) ke fun wf kf=>wM (xSy pl d m [112,117,115,104,32] (pairT pl p [97,102]))<|qE [] kf fun wg kg=>JE<|Je<|QG<|Je<|JR (.string (sy pl d m (ZS pl y 5 p 0))) ⟨rfl,kg.touch.below⟩
   · have h:¬q=0:=by simpa using h
     obtain rfl:p=0:=by simpa using g
     exact coR<|qR 1 [0] ke fun wf kf=>qC (qI pl c d m le sk h0 h1 wf) kf fun wg kg=>wM (xSy pl d m [99,97,108,108,32] [257])<|qE [] kg fun wh kh=>JE<|Je<|QG<|Je<|JR (.string (sy pl d m ([99,97,108,108,32]++[257]))) ⟨by rw[show ZS pl y 5 0 q=[99,97,108,108,32]++[257] from (if_neg (by decide)).trans ((if_neg (by decide)).trans ((if_neg (by decide)).trans ((if_neg (by decide)).trans ((if_neg (by decide)).trans ((if_pos rfl).trans ((if_neg h).trans (if_pos rfl)))))))],kh.touch.below⟩
   · have h:¬q=0:=by simpa using h
     have g:¬p=0:=by simpa using g
     exact qQ [] ke fun wf kf=>JE<|QG<|Je<|JR (.string (sy pl d m [112,114,101,102,105,120])) ⟨by rw[show ZS pl y 5 p q=[112,114,101,102,105,120] from (if_neg (by decide)).trans ((if_neg (by decide)).trans ((if_neg (by decide)).trans ((if_neg (by decide)).trans ((if_neg (by decide)).trans ((if_pos rfl).trans ((if_neg h).trans (if_neg g)))))))],kf.touch.below⟩
 · obtain rfl:z=6:=by simpa using e
   exact qP 6 kh fun wi ki=>qD 0 [1,4] ki<|qDn 0 1 (QPi pl d m wi) ki (by kernel_rfl) fun wj kj=>qT 2 kj (fun w' _=>Jm (ixL wi.heap.size 8 8 y (by omega) _))<|qT 3 kj (fun w' hS=>Jc (ldP (hS.row 1 (b:=wi.heap.size) (t:=9) (sv pl d m QBB) (by kernel_rfl)) y ⟨hy.1,by show y < 8;omega⟩))<|qDc 5 (QGx pl c d m le sk h0 h1 wj) kj fun wk kk =>
    poE<|wM (xSy pl d m (pick QBB y) [256])<|qE [] kk fun wl kl=>JE<|QG<|Je<|JR (.string (sy pl d m (ZS pl y 6 p q))) ⟨rfl,kl.touch.below⟩
 · have e0:¬z=0:=by simpa using e0
   have e1:¬z=1:=by simpa using e1
   have e2:¬z=2:=by simpa using e2
   have e3:¬z=3:=by simpa using e3
   have e4:¬z=4:=by simpa using e4
   have e5:¬z=5:=by simpa using e5
   have e6:¬z=6:=by simpa using e6
   obtain rfl:z=7:=by omega
   exact coR<|qR 1 [] kh fun wi ki=>kBj 103 (.int .i64 8) (.int .i64 y) (.int .i64 (8*y)) (egI _ _ _ _ _) (QUH _ _ (by omega) (by omega))<|qC (QR2 y hy pl d m wi) ki fun wj kj=>wM (xSy pl d m [114,115,116,32] (pick QFc y))<|qE [] kj fun wk kk=>JE<|JR (.string (sy pl d m (ZS pl y 7 p q))) ⟨rfl,kk.touch.below⟩
end Go.Proofs.YtmgcgiecimnncaaGreatDoor
