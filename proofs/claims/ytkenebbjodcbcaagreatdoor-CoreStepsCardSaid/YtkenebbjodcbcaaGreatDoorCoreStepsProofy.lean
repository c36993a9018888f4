/- The law's walk and what it wants (several texts in one). -/
import Derived.Test.YtkenebbjodcbcaaGreatDoorCoH30
namespace Go.Proofs.YtkenebbjodcbcaaGreatDoor
open Go.RowKit
set_option linter.unusedVariables false
set_option linter.unusedSimpArgs false
set_option maxRecDepth 20000
set_option maxHeartbeats 20000000
def X2 (ex:List Bool)(n:Nat):LnT:=⟨wt ex n,wt ex (n+1),false,false,false⟩
def ql (c:CoT)(l:LnT):Bool:=Xh c l&&!QAC (ju c l).kind
def QHW (c:CoT)(l:LnT)(ans:List Int)(k:Nat):Int:=if ql c l=true then ans.getD k 0 else 0
def enK (c:CoT)(l:LnT)(k:Nat):Nat:=if ql c l=true then k+1 else k
def qi (c d:CoT):Bool:=c.off||decide (d.a.w > c.a.w)
def qV (g:Rg)(ans:List Int):Int×List Int:=J4 Q5 (acF g 0) 200 [] ans 0
def nz (xs:List Int):Nat:=(xs.filter (fun x=>x != 0)).length
theorem QQR (xs:List Int)(b:Int):nz (xs++[b])≤nz xs+1:=by
 unfold nz
 rw[List.filter_append,List.length_append]
 have:=List.length_filter_le (fun x:Int=>x != 0) [b]
 simp only[List.length_singleton] at this
 omega
theorem QHO (xs:List Int):nz (xs++[0])=nz xs:=by
 unfold nz
 rw[List.filter_append,List.length_append]
 rfl
theorem QK0:∀ xs:List Int,lead xs≤nz xs
 | []=>Nat.le_refl _
 | x :: xs=>by
   have ih:=QK0 xs
   have e:lead (x :: xs)=if QAN x then lead xs+1 else 0:=rfl
   rw[e]
   unfold nz at *
   by_cases h:QAN x=true
   · have h0:(x != 0)=true:=by rcases (QFw x).1 h with rfl|rfl<;>rfl
     rw[if_pos h,List.filter_cons_of_pos (p:=fun x=>x != 0) h0,List.length_cons]
     omega
   · rw[if_neg h];omega
theorem QGe {rd:Int→Bool} {f:List Int→Cy×Bool} {got:List Int}(h:(f got).2=true)(k:Nat)(ans:List Int)(n:Int):J4 rd f k got ans n=(n,got):=by
 cases k with
 | zero=>rfl
 | succ k=>rw[J4,if_pos h]
theorem QHj {rd:Int→Bool} {f:List Int→Cy×Bool} {got:List Int}(h:(f got).2=false)(hr:rd (f got).1.kind=true)(k:Nat)(ans:List Int)(n:Int):J4 rd f (k+1) got ans n=J4 rd f k (got++[ans.headD 0]) ans.tail (n+(f got).1.t):=by
 rw[J4,if_neg (by rw[h];simp),if_pos hr]
theorem QC5 {rd:Int→Bool} {f:List Int→Cy×Bool} {got:List Int}(h:(f got).2=false)(hr:rd (f got).1.kind=false)(k:Nat)(ans:List Int)(n:Int):J4 rd f (k+1) got ans n=J4 rd f k (got++[0]) ans (n+(f got).1.t):=by
 rw[J4,if_neg (by rw[h];simp),if_neg (by rw[hr];simp)]
theorem QKt {g:Rg} {got:List Int}(h:(Jr g 0 got).b=false):CyK (Jr g 0 got).c:=by
 have e:Jr g 0 got=ofX (Qu g got):=by unfold Jr;rw[if_neg (by decide),if_neg (by decide)]
 rw[e] at h ⊢
 cases hX:Qu g got with
 | error c=>exact QOC hX
 | ok a=>rw[hX] at h;cases h
theorem QLV {g:Rg} {got:List Int}(h:(Jr g 0 got).b=false):got.length≤nz got+8:=by
 have e:Jr g 0 got=ofX (Qu g got):=by unfold Jr;rw[if_neg (by decide),if_neg (by decide)]
 have hl:=QK0 got
 by_cases hn:lead got+9≤got.length
 · obtain⟨a,ys,hX⟩:=QMF g got hn
   rw[e,hX] at h
   cases h
 · omega
theorem QS3 {c:Cy}(h:CyK c):Zb c=true:=by
 obtain⟨h1,h2,h3,h4,h5,-,h6⟩:=h
 refine (QFO c).2 ⟨h1,h2,?_,by omega⟩
 unfold Jh
 by_cases h7:c.kind=7
 · rw[h7];simp;omega
 · have:=h6 h7
   rcases (show c.kind=1∨c.kind=2∨c.kind=3∨c.kind=4∨c.kind=5 by omega) with h|h|h|h|h
   · rw[h];simp;omega
   · rw[h];simp;omega
   · rw[h];simp;omega
   · have:=this.1 (.inl h);rw[h];simp;omega
   · have:=this.1 (.inr h);rw[h];simp;omega
theorem QL7 {c:Cy}(h:CyK c)(hs:Jh c.kind≠0):Q5 c.kind=!QAC c.kind:=by
 obtain⟨h1,h2,h3,-⟩:=h
 rcases (show c.kind=1∨c.kind=2∨c.kind=3∨c.kind=4∨c.kind=5∨c.kind=7 by omega) with h|h|h|h|h|h<;>rw[h] at hs ⊢<;>first|rfl|exact absurd rfl hs
theorem QLq {c:Cy}(h:CyK c)(hs:Jh c.kind=0):Q5 c.kind=false:=by
 obtain⟨h1,h2,h3,-⟩:=h
 rcases (show c.kind=1∨c.kind=2∨c.kind=3∨c.kind=4∨c.kind=5∨c.kind=7 by omega) with h|h|h|h|h|h<;>rw[h] at hs ⊢<;>first|rfl|cases hs
def hasB (a:AtT):Bool:=decide (Jh a.c.kind≠0∧(Jh a.c.kind:Int)+1≤a.k)
structure EnA (g:Rg)(ans:List Int)(ex:List Bool)(n:Nat)(c:CoT)(k lost:Nat)(S:Int):Prop where
 r:c.r=g
 wh:c.wh=0
 ask:(Jr g 0 c.got).b=false
 cy:c.a.c=(Jr g 0 c.got).c
 k0:0≤c.a.k
 kt:c.a.k < c.a.c.t
 w0:0≤c.a.w
 wn:c.a.w≤n
 off:c.off=true→c.a.k=0∧c.a.w=0∧c.got≠[]∧wt ex n=true
 fresh:XG c=true→n=1
 time:(n:Int)=1+S+c.a.k+lost
 s0:c.got=[]→S=0
 s1:c.got≠[]→S≤7*(c.got.length:Int)-3
 ln:1≤n∧lost < n
 le:lost≤ex.length-1
 go:if hasB c.a=true then J4 Q5 (acF g 0) (199-c.got.length) (c.got++[c.b]) (ans.drop k) (S+c.a.c.t)=qV g ans∧nz (c.got++[c.b])+(ans.length-k)≤ans.length
  else c.b=0∧J4 Q5 (acF g 0) (200-c.got.length) c.got (ans.drop k) S=qV g ans∧nz c.got+(ans.length-k)≤ans.length
structure EnB (g:Rg)(ans:List Int)(ex:List Bool)(n:Nat)(c:CoT)(lost:Nat):Prop where
 off:c.off=true
 fresh:XG c=true
 r:c.r=(Jr g 0 (qV g ans).2).g
 time:(n:Int)=1+(qV g ans).1+lost
 line:wt ex n=true
 ln:1≤n∧lost < n
 le:lost≤ex.length-1
structure EnR (g:Rg)(ans:List Int)(ex:List Bool)(n:Nat)(c:CoT)(lost:Nat):Prop where
 r:c.r=(Jr g 0 (qV g ans).2).g
 time:(n:Int)=(qV g ans).1+lost
 le:lost≤ex.length-1
def EnI (g:Rg)(ans:List Int)(ex:List Bool)(n:Nat)(c:CoT)(k lost:Nat):Prop:=(∃ S,EnA g ans ex n c k lost S)∨EnB g ans ex n c lost
theorem QKw {ex:List Bool} {n:Nat}(h:wt ex n=true):n < ex.length:=by
 unfold wt at h
 by_cases hn:n < ex.length
 · exact hn
 · rw[List.getD_eq_getElem?_getD,List.getElem?_eq_none (by omega)] at h;cases h
theorem QQY (g:Rg)(ans:List Int)(ex:List Bool):EnI g ans ex 1 (QBc g) 0 0:=by
 refine .inl ⟨0,rfl,rfl,by show (Jr g 0 []).b=false;rw[QCL];rfl,rfl,Int.le_refl _,by show (0:Int) < (Jr g 0 []).c.t;rw[QCL];exact (show (0:Int) < 4 by decide),Int.le_refl _,by show (0:Int)≤1;omega,fun h=>(by cases h),fun _=>rfl,by show ((1:Nat):Int)=1+0+0+0;omega,fun _=>rfl,fun h=>absurd rfl h,by omega,Nat.zero_le _,?_⟩
 rw[if_neg]
 · exact⟨rfl,by rw[List.drop_zero];rfl,by show 0+_≤_;omega⟩
 · show ¬decide _=true
   rw[decide_eq_false]
   · simp
   · rintro ⟨_,h⟩
     have h:(Jh (QBc g).a.c.kind:Int)+1≤0:=h
     omega
theorem en_n {g:Rg} {ans:List Int} {ex:List Bool} {n:Nat} {c:CoT} {k lost:Nat}(ha:ans.length≤40)(he:ex.length≤60)(h:EnI g ans ex n c k lost):n < 400:=by
 rcases h with ⟨S,h⟩|h
 · have hk:=QKt h.ask
   rw[←h.cy] at hk
   obtain⟨-,-,-,-,h5,-⟩:=hk
   have hl:=QLV h.ask
   have ht:=h.time
   have hle:=h.le
   have hkt:=h.kt
   have hnz:nz c.got≤40:=by
    have hg:=h.go
    have hle:nz c.got≤nz (c.got++[c.b]):=by unfold nz;rw[List.filter_append,List.length_append];omega
    split at hg
    · have:=hg.2;omega
    · have:=hg.2.2;omega
   by_cases e:c.got=[]
   · have:=h.s0 e;omega
   · have:=h.s1 e;omega
 · have:=QKw h.line
   omega
theorem QRF {g:Rg} {ans:List Int} {ex:List Bool} {n:Nat} {e:CoT} {k lost:Nat} {S:Int} {t:Int}(hr:e.r=g)(hw:e.wh=0)(ho:e.off=false)(ask:(Jr g 0 e.got).b=false)(ht:t=(Jr g 0 e.got).c.t)
 (time:(n:Int)=S+t+lost)(s0:e.got=[]→S=0)(s1:e.got≠[]→S≤7*(e.got.length:Int)-3)(ln:1≤n∧lost < n)(le:lost≤ex.length-1)
 (go:J4 Q5 (acF g 0) (199-e.got.length) (e.got++[e.b]) (ans.drop k) (S+t)=qV g ans∧nz (e.got++[e.b])+(ans.length-k)≤ans.length) :
 0=(e.fin (X2 ex n)).a.w∧if (XG (e.fin (X2 ex n))&&!(e.fin (X2 ex n)).off)=true then EnR g ans ex n (e.fin (X2 ex n)) lost else EnI g ans ex (n+1) (e.fin (X2 ex n)) k lost:=by
 obtain⟨go,hnz⟩:=go
 have hbus:(X2 ex n).bus=wt ex (n+1):=rfl
 cases hb:(Jr g 0 (e.got++[e.b])).b with
 | true =>
   have e1:e.fin1 (X2 ex n).irq=({ e with got:=e.got++[e.b],b:=0 }:CoT).choose (Jr g 0 (e.got++[e.b])).g false:=by
    unfold CoT.fin1 CoT.go1
    rw[hr,hw,if_pos hb]
    rfl
   have eR:qV g ans=(S+t,e.got++[e.b]):=by rw[←go];exact QGe hb _ _ _
   have hF:XG (e.fin (X2 ex n))=true:=by
    unfold CoT.fin
    rw[e1]
    rfl
   have hR:(e.fin (X2 ex n)).r=(Jr g 0 (qV g ans).2).g:=by
    unfold CoT.fin
    rw[e1,eR]
    rfl
   have hW:0=(e.fin (X2 ex n)).a.w:=by
    unfold CoT.fin
    rw[e1]
    rfl
   refine⟨hW,?_⟩
   cases hoff:(e.fin (X2 ex n)).off with
   | false=>rw[hF];exact⟨hR,by rw[eR];exact time,le⟩
   | true =>
     rw[hF]
     refine .inr ⟨hoff,hF,hR,by rw[eR];show ((n+1:Nat):Int)=1+(S+t)+lost;omega,?_,by omega,le⟩
     have:(e.fin (X2 ex n)).off=((X2 ex n).bus&&(e.fin1 (X2 ex n).irq).leaves):=rfl
     rw[this,hbus] at hoff
     cases hx:wt ex (n+1) with
     | true=>rfl
     | false=>rw[hx] at hoff;cases hoff
 | false =>
   have e1:e.fin1 (X2 ex n).irq={ e with got:=e.got++[e.b],b:=0,a:=at0 (Jr g 0 (e.got++[e.b])).c }:=by
    unfold CoT.fin1 CoT.go1
    rw[hr,hw,if_neg (by rw[hb];simp)]
   have eF:e.fin (X2 ex n)={ e with got:=e.got++[e.b],b:=0,a:=at0 (Jr g 0 (e.got++[e.b])).c,off:=wt ex (n+1)&&((Jr g 0 (e.got++[e.b])).c.kind != 7) }:=by
    unfold CoT.fin
    rw[e1,hbus]
    rfl
   have hF:XG (e.fin (X2 ex n))=false:=by
    rw[eF]
    show ((e.got++[e.b]).isEmpty&&_)=false
    cases e.got<;>rfl
   refine⟨by rw[eF];rfl,?_⟩
   rw[hF,Bool.false_and,if_neg (by simp)]
   have hk:=QKt hb
   have hl:(e.got++[e.b]).length=e.got.length+1:=by simp
   have hS:S+t≤7*((e.got++[e.b]).length:Int)-3:=by
    rw[hl]
    by_cases e0:e.got=[]
    · have:=s0 e0
      rw[e0] at ht ⊢
      rw[QCL] at ht
      have ht:t=4:=ht
      simp only[List.length_nil]
      omega
    · have:=s1 e0
      have h7:=(QKt ask).2.2.2.2.1
      omega
   refine .inl ⟨S+t,?_⟩
   rw[eF]
   refine⟨hr,hw,hb,rfl,Int.le_refl _,by have:=hk.2.2.2.1;show (0:Int) < (Jr g 0 (e.got++[e.b])).c.t;omega,Int.le_refl _,by show (0:Int)≤((n+1:Nat):Int);omega,fun h=>⟨rfl,rfl,by simp,?_⟩,fun h=>?_,by show ((n+1:Nat):Int)=1+(S+t)+0+lost;omega,fun h=>absurd h (by simp),fun _=>hS,by omega,le,?_⟩
   · have h:(wt ex (n+1)&&((Jr g 0 (e.got++[e.b])).c.kind != 7))=true:=h
     cases hx:wt ex (n+1) with
     | true=>rfl
     | false=>rw[hx] at h;cases h
   · rw[eF] at hF
     rw[hF] at h
     cases h
   · rw[if_neg]
     · refine⟨rfl,?_,?_⟩
       · show J4 Q5 (acF g 0) (200-(e.got++[e.b]).length) (e.got++[e.b]) (ans.drop k) (S+t)=qV g ans
         rw[hl,show 200-(e.got.length+1)=199-e.got.length by omega]
         exact go
       · exact hnz
     · show ¬decide _=true
       rw[decide_eq_false]
       · simp
       · rintro ⟨_,h⟩
         have h:(Jh (Jr g 0 (e.got++[e.b])).c.kind:Int)+1≤0:=h
         omega
theorem QQl {g:Rg} {ans:List Int} {ex:List Bool} {n:Nat} {c:CoT} {k lost:Nat}(ha:ans.length≤40)(he:ex.length≤60)(h:EnI g ans ex n c k lost){d:CoT}(hd:d=Xr c (X2 ex n) (QHW c (X2 ex n) ans k)) :
 if (XG d&&!d.off)=true then EnR g ans ex n d (if qi c d=true then lost+1 else lost) else EnI g ans ex (n+1) d (enK c (X2 ex n) k) (if qi c d=true then lost+1 else lost):=by
 have hn4:=en_n ha he h
 rcases h with ⟨S,h⟩|h
 · have hK:=QKt h.ask
   rw[←h.cy] at hK
   have hlen:c.got.length≤48:=by
    have hl:=QLV h.ask
    have hnz:nz c.got≤40:=by
     have hg:=h.go
     have hle:nz c.got≤nz (c.got++[c.b]):=by unfold nz;rw[List.filter_append,List.length_append];omega
     split at hg
     · have:=hg.2;omega
     · have:=hg.2.2;omega
    omega
   have hok:=QS3 hK
   cases hoff:c.off with
   | true =>
     obtain⟨h1,h2,h3,h4⟩:=h.off hoff
     have hlt:=QKw h4
     have hg0:ql c (X2 ex n)=false:=by unfold ql Xh;rw[hoff];rfl
     have hd:d={ c.note false with off:=wt ex (n+1) }:=by rw[hd];exact QBD rfl hoff _
     have hlost:qi c d=true:=by unfold qi;rw[hoff];rfl
     have hF:XG d=false:=by
      rw[hd]
      show (c.got.isEmpty&&_)=false
      cases hgt:c.got with
      | nil=>exact absurd hgt h3
      | cons x xs=>rfl
     rw[hF,Bool.false_and,if_neg (by simp),if_pos hlost]
     refine .inl ⟨S,?_⟩
     have hk':enK c (X2 ex n) k=k:=by unfold enK;rw[hg0];rfl
     rw[hk',hd]
     exact⟨h.r,h.wh,h.ask,h.cy,h.k0,h.kt,h.w0,by have:=h.wn;show c.a.w≤((n+1:Nat):Int);omega,fun e=>⟨h1,h2,h3,e⟩,fun e=>(by rw[hd] at hF;rw[hF] at e;cases e),by have:=h.time;show ((n+1:Nat):Int)=1+S+c.a.k+((lost+1:Nat):Int);omega,h.s0,h.s1,by have:=h.ln;omega,by have:=h.ln;omega,h.go⟩
   | false =>
     have hrng:¬(Zb c.a.c=false∨c.a.k < 0∨c.a.c.t≤c.a.k):=by
      rintro (e|e|e)
      · rw[hok] at e;cases e
      · have:=h.k0;omega
      · have:=h.kt;omega
     by_cases hw:Jh c.a.c.kind≠0∧c.a.k=(Jh c.a.c.kind:Int)-1∧(X2 ex n).wait=true
     · have hT:=QCp hrng hw
       have hlt:=QKw (show wt ex n=true from hw.2.2)
       have hwr:IntKind.i64.wrap (c.a.w+1)=c.a.w+1:=by
        have:=h.w0;have:=h.wn
        rw[IntKind.wrap_i64];omega
       rw[hwr] at hT
       have hg0:ql c (X2 ex n)=false:=by unfold ql Xh;rw[hT];cases c.off<;>rfl
       have hd:d=(c.note false).pass ⟨c.a.c,c.a.k,c.a.w+1⟩ false (QHW c (X2 ex n) ans k):=by rw[hd];exact QB5 rfl hoff hT rfl _
       have hlost:qi c d=true:=by
        unfold qi
        rw[hd,show (((c.note false).pass ⟨c.a.c,c.a.k,c.a.w+1⟩ false (QHW c (X2 ex n) ans k)).a.w)=c.a.w+1 from rfl,decide_eq_true (by omega)]
        simp
       have hF:XG d=false:=by
        rw[hd]
        show (c.got.isEmpty&&(c.a.k==0&&(c.a.w+1==0)))=false
        have:=h.w0
        rw[show (c.a.w+1==0)=false from beq_eq_false_iff_ne.2 (by omega)]
        simp
       rw[hF,Bool.false_and,if_neg (by simp),if_pos hlost]
       refine .inl ⟨S,?_⟩
       have hk':enK c (X2 ex n) k=k:=by unfold enK;rw[hg0];rfl
       rw[hk',hd]
       refine⟨h.r,h.wh,h.ask,h.cy,h.k0,h.kt,by have:=h.w0;show (0:Int)≤c.a.w+1;omega,by have:=h.wn;show c.a.w+1≤((n+1:Nat):Int);omega,fun e=>?_,fun e=>(by rw[hd] at hF;rw[hF] at e;cases e),by have:=h.time;show ((n+1:Nat):Int)=1+S+c.a.k+((lost+1:Nat):Int);omega,h.s0,h.s1,by have:=h.ln;omega,by have:=h.ln;omega,h.go⟩
       have e:c.off=true:=e
       rw[hoff] at e;cases e
     · have hT:=QG2 hrng hw
       obtain⟨m,hm⟩:∃ m,m=decide (Jh c.a.c.kind≠0∧c.a.k+1=(Jh c.a.c.kind:Int)+1):=⟨_,rfl⟩
       rw[←hm] at hT
       have hgive:ql c (X2 ex n)=(m&&!QAC c.a.c.kind):=by
        unfold ql ju
        have:Xh c (X2 ex n)=m:=by unfold Xh;rw[hT,hoff];rfl
        rw[this]
        cases m<;>rfl
       obtain⟨b,hb⟩:∃ b,b=QHW c (X2 ex n) ans k:=⟨_,rfl⟩
       obtain⟨k',hk'⟩:∃ k',k'=enK c (X2 ex n) k:=⟨_,rfl⟩
       obtain⟨e,hee⟩:∃ e,e=(c.note false).pass ⟨c.a.c,c.a.k+1,c.a.w⟩ m b:=⟨_,rfl⟩
       rw[←hk']
       have hkt:=h.kt
       have hk0:=h.k0
       have er:e.r=g:=by rw[hee];exact h.r
       have ew:e.wh=0:=by rw[hee];exact h.wh
       have eo:e.off=false:=by rw[hee];exact hoff
       have eg:e.got=c.got:=by rw[hee];rfl
       have ea:e.a=⟨c.a.c,c.a.k+1,c.a.w⟩:=by rw[hee];rfl
       -- the byte,and what is left to answer
       have hgo:(if hasB e.a=true then J4 Q5 (acF g 0) (199-e.got.length) (e.got++[e.b]) (ans.drop k') (S+c.a.c.t)=qV g ans∧nz (e.got++[e.b])+(ans.length-k')≤ans.length
        else e.b=0∧J4 Q5 (acF g 0) (200-e.got.length) e.got (ans.drop k') S=qV g ans∧nz e.got+(ans.length-k')≤ans.length):=by
        have hg:=h.go
        rw[eg]
        have hF2:(acF g 0 c.got).2=false:=h.ask
        have hF1:(acF g 0 c.got).1=c.a.c:=h.cy.symm
        by_cases hmt:m=true
        · -- the state in which it is jk
          have hmp:=of_decide_eq_true (hm.symm.trans hmt)
          have h1:hasB e.a=true:=by rw[ea];exact decide_eq_true ⟨hmp.1,by show (Jh c.a.c.kind:Int)+1≤c.a.k+1;omega⟩
          have h0:¬hasB c.a=true:=by
           show ¬decide _=true
           rw[decide_eq_false]
           · simp
           · rintro ⟨_,e⟩;omega
          rw[if_neg h0] at hg
          rw[if_pos h1]
          obtain⟨g1,g2,g3⟩:=hg
          have hrd:=QL7 hK hmp.1
          rw[show 200-c.got.length=199-c.got.length+1 by omega] at g2
          cases hp:QAC c.a.c.kind with
          | true =>
            rw[hp] at hrd hgive
            have eb:e.b=0:=by
             rw[hee]
             show (if m=true then (if QAC c.a.c.kind=true then 0 else b) else c.b)=0
             rw[if_pos hmt,if_pos hp]
            have ek:k'=k:=by rw[hk'];unfold enK;rw[hgive];simp
            rw[QC5 hF2 (by rw[hF1];exact hrd),hF1] at g2
            rw[eb,ek,QHO]
            exact⟨g2,g3⟩
          | false =>
            rw[hp] at hrd hgive
            have hgt:ql c (X2 ex n)=true:=by rw[hgive,hmt];rfl
            have eb:e.b=ans.getD k 0:=by
             rw[hee]
             show (if m=true then (if QAC c.a.c.kind=true then 0 else b) else c.b)=_
             rw[if_pos hmt,if_neg (by rw[hp];simp),hb]
             unfold QHW
             rw[if_pos hgt]
            have ek:k'=k+1:=by rw[hk'];unfold enK;rw[if_pos hgt]
            rw[QHj hF2 (by rw[hF1];exact hrd),hF1] at g2
            have hd1:(ans.drop k).headD 0=ans.getD k 0:=by
             rw[List.headD_eq_head?_getD,List.head?_drop,List.getD_eq_getElem?_getD]
            have hd2:(ans.drop k).tail=ans.drop (k+1):=by rw[List.tail_drop]
            rw[hd1,hd2] at g2
            rw[eb,ek]
            refine⟨g2,?_⟩
            by_cases hlt:k < ans.length
            · have:=QQR c.got (ans.getD k 0);omega
            · have e0:ans.getD k 0=0:=by rw[List.getD_eq_getElem?_getD,List.getElem?_eq_none (by omega)];rfl
              rw[e0,QHO];omega
        · have hmf:m=false:=by simpa using hmt
          have hmp:=of_decide_eq_false (hm.symm.trans hmf)
          have eb:e.b=c.b:=by
           rw[hee]
           show (if m=true then (if QAC c.a.c.kind=true then 0 else b) else c.b)=_
           rw[if_neg hmt]
          have ek:k'=k:=by rw[hk'];unfold enK;rw[hgive,hmf];simp
          have hh:hasB e.a=hasB c.a:=by
           rw[ea]
           exact decide_eq_decide.2 ⟨fun x=>⟨x.1,by have h2:(Jh c.a.c.kind:Int)+1≤c.a.k+1:=x.2;have:=hmp;have h3:¬c.a.k+1=(Jh c.a.c.kind:Int)+1:=fun e=>hmp ⟨x.1,e⟩;omega⟩,fun x=>⟨x.1,by have:=x.2;show (Jh c.a.c.kind:Int)+1≤c.a.k+1;omega⟩⟩
          rw[hh,eb,ek]
          exact hg
       cases hl:decide (c.a.k+1=c.a.c.t) with
       | false =>
         have hlt:c.a.k+1 < c.a.c.t:=by have:=of_decide_eq_false hl;omega
         have hd:d=e:=by rw[hd,hee,hb];exact QB5 rfl hoff hT hl _
         have hlost:qi c d=false:=by
          unfold qi
          rw[hd,ea,hoff,decide_eq_false (by show ¬c.a.w > c.a.w;omega)]
          rfl
         have hF:XG d=false:=by
          rw[hd]
          unfold XG
          rw[ea]
          show (e.got.isEmpty&&((c.a.k+1==0)&&(c.a.w==0)))=false
          rw[show (c.a.k+1==0)=false from beq_eq_false_iff_ne.2 (by omega)]
          simp
         rw[hF,Bool.false_and,if_neg (by simp),hlost,if_neg (by simp)]
         refine .inl ⟨S,?_⟩
         rw[hd]
         rw[hd] at hF
         refine⟨er,ew,by rw[eg];exact h.ask,by rw[ea,eg];exact h.cy,by rw[ea];show (0:Int)≤c.a.k+1;omega,by rw[ea];exact hlt,by rw[ea];exact h.w0,by have:=h.wn;rw[ea];show c.a.w≤((n+1:Nat):Int);omega,fun x=>(by rw[eo] at x;cases x),fun x=>(by rw[hF] at x;cases x),by have:=h.time;rw[ea];show ((n+1:Nat):Int)=1+S+(c.a.k+1)+lost;omega,by rw[eg];exact h.s0,by rw[eg];exact h.s1,by have:=h.ln;omega,h.le,?_⟩
         rw[show e.a.c.t=c.a.c.t by rw[ea]]
         exact hgo
       | true =>
         have hlt:c.a.k+1=c.a.c.t:=of_decide_eq_true hl
         have hd:d=e.fin (X2 ex n):=by rw[hd,hee,hb];exact QBE rfl hoff hT hl _
         have hgo2:J4 Q5 (acF g 0) (199-e.got.length) (e.got++[e.b]) (ans.drop k') (S+c.a.c.t)=qV g ans∧nz (e.got++[e.b])+(ans.length-k')≤ans.length:=by
          cases hh:hasB e.a with
          | true=>rw[if_pos hh] at hgo;exact hgo
          | false =>
            rw[if_neg (by rw[hh];simp)] at hgo
            have hs0:Jh c.a.c.kind=0:=by
             rw[ea] at hh
             have h1:=of_decide_eq_false hh
             have h2:=((QFO c.a.c).1 hok).2.2.1
             by_cases hz:Jh c.a.c.kind=0
             · exact hz
             · exact absurd ⟨hz,by show (Jh c.a.c.kind:Int)+1≤c.a.k+1;omega⟩ h1
            obtain⟨g1,g2,g3⟩:=hgo
            rw[eg] at g2 g3 ⊢
            rw[show 200-c.got.length=199-c.got.length+1 by omega,QC5 (show (acF g 0 c.got).2=false from h.ask) (by rw[show (acF g 0 c.got).1=c.a.c from h.cy.symm];exact QLq hK hs0),show (acF g 0 c.got).1=c.a.c from h.cy.symm] at g2
            rw[g1,QHO]
            exact⟨g2,g3⟩
         obtain⟨hw0,key⟩:=QRF (ex:=ex) (n:=n) (lost:=lost) er ew eo (by rw[eg];exact h.ask) (by rw[eg];exact congrArg Cy.t h.cy) (by have:=h.time;omega) (by rw[eg];exact h.s0) (by rw[eg];exact h.s1) h.ln h.le hgo2
         have hlost:qi c d=false:=by
          unfold qi
          rw[hd,hoff,←hw0,decide_eq_false (by have:=h.w0;omega)]
          rfl
         rw[hlost,hd]
         simp only[Bool.false_eq_true,if_false]
         exact key
 · have hlt:=QKw h.line
   have hg0:ql c (X2 ex n)=false:=by unfold ql Xh;rw[h.off];rfl
   have hd:d={ c.note false with off:=wt ex (n+1) }:=by rw[hd];exact QBD rfl h.off _
   have hlost:qi c d=true:=by unfold qi;rw[h.off];rfl
   have hF:XG d=true:=by rw[hd];exact h.fresh
   have hr:d.r=(Jr g 0 (qV g ans).2).g:=by rw[hd];exact h.r
   have ho:d.off=wt ex (n+1):=by rw[hd]
   have h1:=h.time
   have h2:=h.ln
   rw[hF,if_pos hlost,ho]
   cases hx:wt ex (n+1) with
   | false=>exact⟨hr,by show (n:Int)=_+((lost+1:Nat):Int);omega,by omega⟩
   | true=>exact .inr ⟨ho.trans hx,hF,hr,by show ((n+1:Nat):Int)=1+_+((lost+1:Nat):Int);omega,hx,by omega,by omega⟩
theorem QKk {P:Program} {ρ:Operand→Value} {o:Oper} {t:TypeId} {w w':World} {V:Value}(h:(Instr.alloc t true (.tuple #[])).run P w=.ok V w')(ho:o.op=.alloc t:=by exact rfl):(execOp ρ o).run P w=.ok (.value V) w':=by
 simp only[execOp,ho,Sem.run_bind,h,Result.andThen_ok,Sem.run_pure]
theorem QHe (w:World):(Instr.alloc 40 true (.tuple #[])).run Tryz.prog w=.ok (pT w.heap.size 0) (w.alloc (.cells (lnC Qr) 40)):=by
 simp[go_sem,Qr]
theorem QLO (n:Nat)(h:n < 1000000)(w:World):(binOp .add 3 (.int .i64 (n:Int)) (.int .i64 1)).run Tryz.prog w=.ok (.int .i64 ((n+1:Nat):Int)) w:=by
 have e:IntKind.i64.wrap ((n:Int)+1)=((n+1:Nat):Int):=by rw[IntKind.wrap_i64];omega
 simp[go_sem,e]
structure EnX where
 n:Nat
 k:Nat
 lost:Nat
 c:CoT
 A:Option Addr
 cap:Nat
 y:Nat→Value
structure LnX where
 bl:Nat
 y:Nat→Value
def enB (h bc:Nat)(S1 S2:Value)(x:EnX):List Value:=[x.y 0,S1,S2,pT h 0,x.y 4,x.y 5,pT (h+1) 0,.int .i64 0,.int .i64 0,pT bc 0,.int .i64 (x.k:Int),.int .i64 (x.lost:Int),.int .i64 (x.n:Int),x.y 13,x.y 14,x.y 15,x.y 16,x.y 17,x.y 18,x.y 19,x.y 20,x.y 21,x.y 22,x.y 23,x.y 24,x.y 25,x.y 26,x.y 27,x.y 28,x.y 29,x.y 30,x.y 31,x.y 32,x.y 33,x.y 34,x.y 35,x.y 36,x.y 37,x.y 38,x.y 39,x.y 40,x.y 41,x.y 42,x.y 43,x.y 44,x.y 45,x.y 46,x.y 47,x.y 48,x.y 49,x.y 50,x.y 51,x.y 52,x.y 53,x.y 54,x.y 55,x.y 56,x.y 57,x.y 58,x.y 59,x.y 60,x.y 61,x.y 62,x.y 63,x.y 64,x.y 65,x.y 66,x.y 67,x.y 68,x.y 69,x.y 70,x.y 71,x.y 72,x.y 73,x.y 74,x.y 75,x.y 76,x.y 77,x.y 78,x.y 79,x.y 80,x.y 81,x.y 82,x.y 83,x.y 84,x.y 85,x.y 86,x.y 87,x.y 88,x.y 89,x.y 90,x.y 91,x.y 92,x.y 93,x.y 94,x.y 95,x.y 96,x.y 97,x.y 98,x.y 99,x.y 100,x.y 101,x.y 102,x.y 103]
def enB1 (h bc:Nat)(S1 S2:Value)(k lost n:Nat)(x:LnX):List Value:=[x.y 0,S1,S2,pT h 0,x.y 4,x.y 5,pT (h+1) 0,.int .i64 0,.int .i64 0,pT bc 0,.int .i64 (k:Int),.int .i64 (lost:Int),.int .i64 (n:Int),pT x.bl 0,x.y 14,x.y 15,x.y 16,x.y 17,x.y 18,x.y 19,x.y 20,x.y 21,x.y 22,x.y 23,x.y 24,x.y 25,x.y 26,x.y 27,x.y 28,x.y 29,x.y 30,x.y 31,x.y 32,x.y 33,x.y 34,x.y 35,x.y 36,x.y 37,x.y 38,x.y 39,x.y 40,x.y 41,x.y 42,x.y 43,x.y 44,x.y 45,x.y 46,x.y 47,x.y 48,x.y 49,x.y 50,x.y 51,x.y 52,x.y 53,x.y 54,x.y 55,x.y 56,x.y 57,x.y 58,x.y 59,x.y 60,x.y 61,x.y 62,x.y 63,x.y 64,x.y 65,x.y 66,x.y 67,x.y 68,x.y 69,x.y 70,x.y 71,x.y 72,x.y 73,x.y 74,x.y 75,x.y 76,x.y 77,x.y 78,x.y 79,x.y 80,x.y 81,x.y 82,x.y 83,x.y 84,x.y 85,x.y 86,x.y 87,x.y 88,x.y 89,x.y 90,x.y 91,x.y 92,x.y 93,x.y 94,x.y 95,x.y 96,x.y 97,x.y 98,x.y 99,x.y 100,x.y 101,x.y 102,x.y 103]
def enB2 (h bc:Nat)(S1 S2:Value)(bl k lost n:Nat)(b:Int)(x:js):List Value:=[x.y 0,S1,S2,pT h 0,x.y 4,x.y 5,pT (h+1) 0,.int .i64 0,.int .i64 0,pT bc 0,.int .i64 (k:Int),.int .i64 (lost:Int),.int .i64 (n:Int),pT bl 0,x.y 14,x.y 15,.int .u8 b,x.y 17,x.y 18,x.y 19,x.y 20,x.y 21,x.y 22,x.y 23,x.y 24,x.y 25,x.y 26,x.y 27,x.y 28,x.y 29,x.y 30,x.y 31,x.y 32,x.y 33,x.y 34,x.y 35,x.y 36,x.y 37,x.y 38,x.y 39,x.y 40,x.y 41,x.y 42,x.y 43,x.y 44,x.y 45,x.y 46,x.y 47,x.y 48,x.y 49,x.y 50,x.y 51,x.y 52,x.y 53,x.y 54,x.y 55,x.y 56,x.y 57,x.y 58,x.y 59,x.y 60,x.y 61,x.y 62,x.y 63,x.y 64,x.y 65,x.y 66,x.y 67,x.y 68,x.y 69,x.y 70,x.y 71,x.y 72,x.y 73,x.y 74,x.y 75,x.y 76,x.y 77,x.y 78,x.y 79,x.y 80,x.y 81,x.y 82,x.y 83,x.y 84,x.y 85,x.y 86,x.y 87,x.y 88,x.y 89,x.y 90,x.y 91,x.y 92,x.y 93,x.y 94,x.y 95,x.y 96,x.y 97,x.y 98,x.y 99,x.y 100,x.y 101,x.y 102,x.y 103]
def enB3 (h bc:Nat)(S1 S2:Value)(bd k lost n:Nat)(x:js):List Value:=[x.y 0,S1,S2,pT h 0,x.y 4,x.y 5,pT (h+1) 0,.int .i64 0,.int .i64 0,pT bc 0,.int .i64 (k:Int),.int .i64 (lost:Int),.int .i64 (n:Int),x.y 13,x.y 14,x.y 15,x.y 16,pT bd 0,x.y 18,x.y 19,x.y 20,x.y 21,x.y 22,x.y 23,x.y 24,x.y 25,x.y 26,x.y 27,x.y 28,x.y 29,x.y 30,x.y 31,x.y 32,x.y 33,x.y 34,x.y 35,x.y 36,x.y 37,x.y 38,x.y 39,x.y 40,x.y 41,x.y 42,x.y 43,x.y 44,x.y 45,x.y 46,x.y 47,x.y 48,x.y 49,x.y 50,x.y 51,x.y 52,x.y 53,x.y 54,x.y 55,x.y 56,x.y 57,x.y 58,x.y 59,x.y 60,x.y 61,x.y 62,x.y 63,x.y 64,x.y 65,x.y 66,x.y 67,x.y 68,x.y 69,x.y 70,x.y 71,x.y 72,x.y 73,x.y 74,x.y 75,x.y 76,x.y 77,x.y 78,x.y 79,x.y 80,x.y 81,x.y 82,x.y 83,x.y 84,x.y 85,x.y 86,x.y 87,x.y 88,x.y 89,x.y 90,x.y 91,x.y 92,x.y 93,x.y 94,x.y 95,x.y 96,x.y 97,x.y 98,x.y 99,x.y 100,x.y 101,x.y 102,x.y 103]
structure EnL (w:World)(bc:Nat)(g:Rg)(ans:List Int)(ex:List Bool)(x:EnX)(W:World):Prop where
 inv:EnI g ans ex x.n x.c x.k x.lost
 len:x.c.got.length≤x.n
 kn:x.k≤x.n
 ok:OkC x.c
 r0:Row W (w.heap.size+1) 33 (coC zeroCo (.slice none 0 0))
 r1:Row W bc 33 (coC x.c (.slice x.A x.c.got.length x.cap))
 g1:GotIn W W.heap.size (.slice x.A x.c.got.length x.cap) x.c.got
 f1:x.c.got≠[]→∀ z,(Value.slice x.A x.c.got.length x.cap).ownBlock=some z→bc < z
 low:Below w.heap.size w W
theorem QON {ex:List Bool} {n:Nat}(h:n < ex.length):wt ex n=ex[n]:=by unfold wt;rw[List.getD_eq_getElem?_getD,List.getElem?_eq_getElem h];rfl
theorem QOV {ex:List Bool} {n:Nat}(h:¬n < ex.length):wt ex n=false:=by unfold wt;rw[List.getD_eq_getElem?_getD,List.getElem?_eq_none (by omega)];rfl
theorem QR1 {w:World} {B:Nat} {A:Option Addr} {n cap:Nat} {xs:List Int}(h:GotIn w B (.slice A n cap) xs)(hne:xs≠[]):∀ z,(Value.slice A n cap).ownBlock=some z→z < B:=by
 obtain⟨A',cap',e,-,h2,-⟩:=h
 injection e with e1 e2 e3
 subst e1
 exact QPR h2 hne
theorem QQJ {g:Rg} {ans:List Int} {ex:List Bool} {n:Nat} {c:CoT} {k lost:Nat}(h:EnI g ans ex n c k lost):lost < n:=by
 rcases h with ⟨S,h⟩|h
 · exact h.ln.2
 · exact h.ln.2
theorem QFM (hA:jJ)(g:Rg)(hg:RgB g)(A:Option Addr)(cap:Nat)(ans:List Int)(Ae:Option Addr)(cape:Nat)(ex:List Bool)(ha:ans.length≤40)(he60:ex.length≤60)(h8:Bytes8 ans)(w:World)(hin:BytesIn w w.heap.size A ans)(hex:ValsIn w w.heap.size Ae (blv ex))(ht:Tabs w w.heap.size)(hS:Samps w) :
 Calls Tryz.prog 23 #[JH g,.slice A ans.length cap,.slice Ae ex.length cape] w fun e w'=>∃ (c:CoT) (A':Option Addr) (cap' n lost:Nat),e=.returned (.tuple #[coV c (.slice A' c.got.length cap'),.int .i64 (n:Int),.int .i64 (lost:Int)])∧EnR g ans ex n c lost∧Below w.heap.size w w':=by
 obtain⟨N,hN⟩:∃ N,N=QBc g:=⟨_,rfl⟩
 have hNo:OkC N:=by rw[hN];exact OkC.new hg
 have hNg:N.got=[]:=by rw[hN];rfl
 have K1:=fun (W:World) (h:Tabs W W.heap.size)=>QBm g hg W h
 rw[←hN] at K1
 go_enter Tryz.func23,Tryz.ntmps23
 refine JB<|qQ [] (Many.begin w) fun w1 k1=>coR<|qR 1 [0] k1 fun w2 k2=>qC (K1 w2 (ht.below k2.touch.below)) k2 fun w3 k3=>qE [2] k3 fun w4 k4=>qQ [] k4 fun w5 k5=>qQ [] k5 fun w6 k6=>coS<|qQ [] k6 fun w7 k7=>coB<|?_
 have r0:Row w7 (w.heap.size+1) 33 (coC zeroCo (.slice none 0 0)):=k7.row 1 (coC zeroCo (.slice none 0 0)).toList (by kernel_rfl)
 have r1:Row w7 w3.heap.size 33 (coC N (.slice none 0 0)):=k7.row 2 (coC N (.slice none 0 0)).toList (by kernel_rfl)
 have hbc:w.heap.size+1 < w3.heap.size:=k3.lt 1 ⟨w.heap.size+1,33,(coC zeroCo (.slice none 0 0)).toList.map some⟩ (by kernel_rfl)
 have low7:=k7.touch.below
 refine QHB (enB w.heap.size w3.heap.size (.slice A ans.length cap) (.slice Ae ex.length cape)) (EnL w w3.heap.size g ans ex) (fun x=>401-x.n) (fun y=>⟨1,0,0,N,none,0,y⟩) ⟨by rw[hN];exact QQY g ans ex,by rw[hNg];exact Nat.zero_le _,Nat.zero_le _,hNo,r0,by rw[hNg];exact r1,by rw[hNg];exact QB1 _ _,fun h=>absurd hNg h,low7⟩ ?_
 clear k1 k2 k3 k4 k5 k6 k7 r0 r1 low7 K1
 generalize w3.heap.size=bc at *
 rintro ⟨n,k,lost,c,A1,cap1,y⟩ W ⟨inv,hlen,hkn,hco,r0,r1,g1,f1,low⟩
 dsimp only at inv hlen hkn hco r0 r1 g1 f1 low
 have hn400:=en_n ha he60 inv
 refine coS<|qQ [] (Many.begin W) fun wa ka=>coI (decide ((n:Int) < 400)) (fun hlt=>JC<|eoT<|coS<|coB<|?_) fun hge=>absurd (show (n:Int) < 400 by omega) (by simpa using hge)
 have r0a:=r0.below ka.touch.below r0.lt
 have r1a:=r1.below ka.touch.below r1.lt
 have lowa:=bOn low ka
 have g1a:=g1.on ka.touch.below
 have hexa:∀ {W'},Below w.heap.size w W'→ValsIn W' W'.heap.size Ae (blv ex):=fun h=>(hex.below h).more h.size
 clear ka r0 r1 low g1
 obtain⟨l,hl⟩:∃ l,l=X2 ex n:=⟨_,rfl⟩
 have hl':l=⟨wt ex n,wt ex (n+1),false,false,false⟩:=hl
 refine QBJ (enB1 w.heap.size bc (.slice A ans.length cap) (.slice Ae ex.length cape) k lost n) (fun q W'=>Row W' q.bl 40 (lnC l)∧wa.heap.size≤q.bl∧Below wa.heap.size wa W') ?_ ?_
 · refine coDz 24 (Below.refl _ wa) fun wb hb1 hb2=>?_
   have rn:=Row.new wb 40 (lnC Qr)
   have bn:=jq hb2 (.cells (lnC Qr) 40)
   have hexS:∀ {W'},Below wa.heap.size wa W'→ValsIn W' W'.heap.size Ae (blv ex):=fun h=>hexa (lowa.trans (h.mono lowa.size))
   by_cases h1:n < ex.length
   · obtain⟨p,rfl⟩:=hex.atB h1
     by_cases h2:n+1 < ex.length
     · rw[hl',QON h1,QON h2]
       refine qM [0,1,2] hb2<|qT 3 hb2 (fun w' _=>ZD (egI _ _ _ _ _ _) (QHy (n:Nat) (ex.length:Nat) true (decide_eq_true (by omega)) _))<|qM [4,5,6] hb2<|qT 7 hb2 (fun w' _=>jG (QJc p ex.length cape n h1 _))<|qT 8 hb2 (fun w' hs=>qb ((hexS hs).ldB h1))<|qM [9,10] hb2<|qT 11 hb2 (fun w' _=>ZD (egI _ _ _ _ _ _) (QLO n (by omega) _))<|qM [12,13] hb2<|qT 14 hb2 (fun w' _=>ZD (egI _ _ _ _ _ _) (QHy ((n+1:Nat):Int) (ex.length:Nat) true (decide_eq_true (by omega)) _))<|qM [15,16,17] hb2<|qT 18 hb2 (fun w' _=>ZD (egI _ _ _ _ _ _) (QLO n (by omega) _))<|qT 19 hb2 (fun w' _=>jG (QJc p ex.length cape (n+1) h2 _))<|qT 20 hb2 (fun w' hs=>qb ((hexS hs).ldB h2))<|qM [21,22] hb2<|?_
       refine jn 23 (soX (w':=wb.alloc (.cells (lnC Qr) 40)) (jq hb2 _) (QKk (QHe wb))<|poE ?_)
       generalize wb.alloc (.cells (lnC Qr) 40)=wc at rn bn ⊢
       exact qF [0] (Many.start rn) fun wd kd=>XD (fun y=>⟨wb.heap.size,y⟩) ⟨kd.row 0 (lnC ⟨ex[n],ex[n+1],false,false,false⟩).toList (by kernel_rfl),hb2.size,Kept.low bn (Kept.of_touch kd.touch) bn.size fun x e=>by have:=hb2.size;simp at e;omega⟩
     · rw[hl',QON h1,QOV h2]
       refine qM [0,1,2] hb2<|qT 3 hb2 (fun w' _=>ZD (egI _ _ _ _ _ _) (QHy (n:Nat) (ex.length:Nat) true (decide_eq_true (by omega)) _))<|qM [4,5,6] hb2<|qT 7 hb2 (fun w' _=>jG (QJc p ex.length cape n h1 _))<|qT 8 hb2 (fun w' hs=>qb ((hexS hs).ldB h1))<|qM [9,10] hb2<|qT 11 hb2 (fun w' _=>ZD (egI _ _ _ _ _ _) (QLO n (by omega) _))<|qM [12,13] hb2<|qT 14 hb2 (fun w' _=>ZD (egI _ _ _ _ _ _) (QHy ((n+1:Nat):Int) (ex.length:Nat) false (decide_eq_false (by omega)) _))<|qM [15,16,17,18,19,20,21,22] hb2<|?_
       refine jn 23 (soX (w':=wb.alloc (.cells (lnC Qr) 40)) (jq hb2 _) (QKk (QHe wb))<|poE ?_)
       generalize wb.alloc (.cells (lnC Qr) 40)=wc at rn bn ⊢
       exact qF [0] (Many.start rn) fun wd kd=>XD (fun y=>⟨wb.heap.size,y⟩) ⟨kd.row 0 (lnC ⟨ex[n],false,false,false,false⟩).toList (by kernel_rfl),hb2.size,Kept.low bn (Kept.of_touch kd.touch) bn.size fun x e=>by have:=hb2.size;simp at e;omega⟩
   · have h2:¬n+1 < ex.length:=by omega
     rw[hl',QOV h1,QOV h2]
     refine qM [0,1,2] hb2<|qT 3 hb2 (fun w' _=>ZD (egI _ _ _ _ _ _) (QHy (n:Nat) (ex.length:Nat) false (decide_eq_false (by omega)) _))<|qM [4,5,6,7,8,9,10] hb2<|qT 11 hb2 (fun w' _=>ZD (egI _ _ _ _ _ _) (QLO n (by omega) _))<|qM [12,13] hb2<|qT 14 hb2 (fun w' _=>ZD (egI _ _ _ _ _ _) (QHy ((n+1:Nat):Int) (ex.length:Nat) false (decide_eq_false (by omega)) _))<|qM [15,16,17,18,19,20,21,22] hb2<|?_
     refine jn 23 (soX (w':=wb.alloc (.cells (lnC Qr) 40)) (jq hb2 _) (QKk (QHe wb))<|poE ?_)
     generalize wb.alloc (.cells (lnC Qr) 40)=wc at rn bn ⊢
     exact qF [0] (Many.start rn) fun wd kd=>XD (fun y=>⟨wb.heap.size,y⟩) ⟨kd.row 0 (lnC ⟨false,false,false,false,false⟩).toList (by kernel_rfl),hb2.size,Kept.low bn (Kept.of_touch kd.touch) bn.size fun x e=>by have:=hb2.size;simp at e;omega⟩
 rintro ⟨bl,y⟩ wb ⟨rl,hbl,hba⟩
 dsimp only at rl hbl
 have hbca:=r1a.lt
 have r0b:=r0a.below hba r0a.lt
 have r1b:=r1a.below hba r1a.lt
 have lowb:Below w.heap.size w wb:=lowa.trans (hba.mono lowa.size)
 have g1b:=g1a.on hba
 have g1lt:=fun hne=>QR1 g1a hne
 have km:=Many.three r1b r0b rl (by omega) (by omega) (by omega)
 have lowK:∀ {W' rs},Many wb [bc,w.heap.size+1,bl] rs W'→Below w.heap.size w W':=fun k=>Kept.low lowb (Kept.of_touch k.touch) lowb.size fun x e=>by have:=lowa.size;simp at e;omega
 have g1K:∀ {W' rs},Many wb [bc,w.heap.size+1,bl] rs W'→GotIn W' W'.heap.size (.slice A1 c.got.length cap1) c.got:=fun k=>g1b.stay (Kept.of_touch k.touch) fun hne x e h=>by
  have h1:=f1 hne x e
  have h2:=g1lt hne x e
  simp at h
  omega
 clear r0a r1a r0b r1b g1a hexa
 have KA:=fun (W':World) (h:Below w.heap.size w W')=>QAs c A1 c.got.length cap1 l W' (hS.below h)
 obtain⟨x,hx⟩:∃ x,x=ju c l:=⟨_,rfl⟩
 obtain⟨q,hq⟩:∃ q,q=Xh c l:=⟨_,rfl⟩
 have hgive:ql c l=(q&&!QAC x.kind):=by rw[hq,hx];rfl
 rw[←hx,←hq] at KA
 obtain⟨b,hbe⟩:∃ b,b=QHW c l ans k:=⟨_,rfl⟩
 obtain⟨k',hke⟩:∃ k',k'=enK c l k:=⟨_,rfl⟩
 have hk'n:k'≤n+1:=by
  rw[hke]
  unfold enK
  split<;>omega
 have hb8:B8 b:=by
  rw[hbe]
  unfold QHW
  split
  · exact h8.getD k
  · exact B8.zero
 refine coR<|qR 2 [0,2] km fun wc kc=>qC (KA wc (lowK kc)) kc fun wd kd=>qE [3] kd fun we ke=>qQ [] ke fun wf kf=>?_
 refine QBJ (enB2 w.heap.size bc (.slice A ans.length cap) (.slice Ae ex.length cape) bl k' lost n b) (fun _ W'=>Many wb [bc,w.heap.size+1,bl] [⟨bc,33,(coC c (.slice A1 c.got.length cap1)).toList.map some⟩,⟨w.heap.size+1,33,(coC zeroCo (.slice none 0 0)).toList.map some⟩,⟨bl,40,(lnC l).toList.map some⟩] W') ?_ ?_
 · have no:ql c l=false→b=0∧k'=k:=fun h=>⟨by rw[hbe];unfold QHW;rw[h];rfl,by rw[hke];unfold enK;rw[h];rfl⟩
   have yes:ql c l=true→b=ans.getD k 0∧k'=k+1:=fun h=>⟨by rw[hbe];unfold QHW;rw[if_pos h],by rw[hke];unfold enK;rw[if_pos h]⟩
   cases q with
   | false =>
     obtain⟨rfl,rfl⟩:=no hgive
     exact qQ [] kf fun wg kg=>coF<|JC<|XD (fun y=>⟨y⟩) (kg.take 3 _)
   | true =>
     have eP:QAC x.kind=(x.kind==3||x.kind==5):=rfl
     refine coR<|qR 5 [3] kf fun wg kg=>?_
     cases h3:(x.kind==3) with
     | true =>
       obtain⟨rfl,rfl⟩:=no (by rw[hgive,eP,h3];rfl)
       exact tell 57 (show (x.kind != 3)=false by simp[bne,h3])<|qE [] kg fun wh kh=>coF<|JC<|XD (fun y=>⟨y⟩) (kh.take 3 _)
     | false =>
       refine tell 57 (show (x.kind != 3)=true by simp[bne,h3])<|qR 5 [3] kg fun wh kh=>?_
       cases h5:(x.kind==5) with
       | true =>
         obtain⟨rfl,rfl⟩:=no (by rw[hgive,eP,h3,h5];rfl)
         exact tell 62 (show (x.kind != 5)=false by simp[bne,h5])<|qE [] kh fun wi ki=>coF<|JC<|XD (fun y=>⟨y⟩) (ki.take 3 _)
       | false =>
         obtain⟨eb,ek⟩:=yes (by rw[hgive,eP,h3,h5];rfl)
         rw[eb,ek]
         refine tell 62 (show (x.kind != 5)=true by simp[bne,h5])<|qE [] kh fun wi ki=>coT<|coS<|qQ [] ki fun wj kj=>coI (decide ((k:Int) < (ans.length:Int))) (fun hb=>?_) fun hb=>?_
         · have hka:k < ans.length:=by
            have:(k:Int) < (ans.length:Int):=by simpa using hb
            omega
           obtain⟨p,rfl⟩:=hin.addr hka
           rw[show ans.getD k 0=ans[k] by rw[List.getD_eq_getElem?_getD,List.getElem?_eq_getElem hka];rfl]
           exact coZ<|qR 2 [] kj fun wk kk=>wM (jG (ixB p ans.length cap k hka _))<|wM (qb ((hin.below (lowK kk)).ld hka))<|qF [] kk fun wl kl=>eoT<|coZ<|qR 1 [] kl fun wm km=>wM (QDX k (by omega))<|qF [] km fun wn kn=>XD (fun y=>⟨y⟩) (kn.take 3 _)
         · have hka:¬k < ans.length:=by
            have:¬(k:Int) < (ans.length:Int):=by simpa using hb
            omega
           rw[show ans.getD k 0=0 by rw[List.getD_eq_getElem?_getD,List.getElem?_eq_none (by omega)];rfl]
           exact JC<|eoT<|coZ<|qR 1 [] kj fun wm km=>wM (QDX k (by omega))<|qF [] km fun wn kn=>XD (fun y=>⟨y⟩) (kn.take 3 _)
 clear km kc kd ke kf KA
 rintro ⟨y⟩ wg kg
 obtain⟨D,hDd⟩:∃ D,D=Xr c l b:=⟨_,rfl⟩
 have hDo:OkC D:=by rw[hDd];exact hco.tick hA l hb8
 have hDl:D.got.length≤n+1:=by have:=QI7 c l b;rw[←hDd] at this;omega
 have step:=QQl ha he60 inv (d:=D) (by rw[hDd,hbe,hl])
 rw[←hl,←hke] at step
 obtain⟨lost',hle⟩:∃ lost':Nat,lost'=if qi c D=true then lost+1 else lost:=⟨_,rfl⟩
 rw[←hle] at step
 have hln:=QQJ inv
 have KT:=fun (W':World) (h:Below w.heap.size w W') (h2:GotIn W' W'.heap.size (.slice A1 c.got.length cap1) c.got)=>jl hA c hco l b hb8 (.slice A1 c.got.length cap1) (by omega) W' h2 (ht.below h) (hS.below h)
 rw[←hDd] at KT
 refine coR<|qR 3 [0,2] kg fun wh kh=>?_
 have hbh:bc < wh.heap.size∧bl < wh.heap.size:=⟨kh.lt 0 ⟨bc,33,(coC c (.slice A1 c.got.length cap1)).toList.map some⟩ (by kernel_rfl),kh.lt 2 ⟨bl,40,(lnC l).toList.map some⟩ (by kernel_rfl)⟩
 refine kX (KT wh (lowK kh) (g1K kh)) fun e wi ⟨v',he,hgo,hown,hb⟩=>⟨_,he,?_⟩
 have hgo':=hgo
 obtain⟨A2,cap2,rfl,-⟩:=hgo'
 have ki:=(kh.below hb).take 3 [⟨bc,33,(coC c (.slice A1 c.got.length cap1)).toList.map some⟩,⟨w.heap.size+1,33,(coC zeroCo (.slice none 0 0)).toList.map some⟩,⟨bl,40,(lnC l).toList.map some⟩]
 have lowi:=lowK ki
 have kz:=ki.anewK (Kept.refl (fun _=>False) wi) [bc,w.heap.size+1,bl] (fun _ _ h=>h)
 clear kh ki kg
 have lowZ:∀ {W' rs},Many wi [bc,w.heap.size+1,bl] rs W'→Below w.heap.size w W':=fun k=>Kept.low lowi (Kept.of_touch k.touch) lowi.size fun x e=>by have:=lowa.size;simp at e;omega
 have gZ:∀ {W' rs},Many wi [bc,w.heap.size+1,bl] rs W'→GotIn W' W'.heap.size (.slice A2 D.got.length cap2) D.got:=fun k=>hgo.stay (Kept.of_touch k.touch) fun hne x e h=>by
  have:=hown x e
  simp at h
  omega
 refine qE [3] kz fun wj kj=>?_
 refine QBJ (enB3 w.heap.size bc (.slice A ans.length cap) (.slice Ae ex.length cape) wi.heap.size k' lost' n) (fun _ W'=>Many wi [bc,w.heap.size+1,bl] [⟨bc,33,(coC c (.slice A1 c.got.length cap1)).toList.map some⟩,⟨w.heap.size+1,33,(coC zeroCo (.slice none 0 0)).toList.map some⟩,⟨bl,40,(lnC l).toList.map some⟩,⟨wi.heap.size,33,(coC D (.slice A2 D.got.length cap2)).toList.map some⟩] W') ?_ ?_
 · refine coR<|qR 2 [0] kj fun wk kk=>?_
   have eL:qi c D=(c.off||decide (D.a.w > c.a.w)):=rfl
   cases ho:c.off with
   | true =>
     rw[show lost'=lost+1 by rw[hle,eL,ho];rfl]
     exact tell 79 ho<|qE [] kk fun wl kl=>coT<|coZ<|qR 1 [] kl fun wm km=>wM (QDX lost (by omega))<|qF [] km fun wn kn=>XD (fun y=>⟨y⟩) (kn.take 4 _)
   | false =>
     refine tell 79 ho<|qR 8 [3,0] kk fun wl kl=>?_
     by_cases hw:D.a.w > c.a.w
     · rw[show lost'=lost+1 by rw[hle,eL,ho,decide_eq_true hw];rfl]
       exact tell 87 (decide_eq_true hw)<|qE [] kl fun wm km=>coT<|coZ<|qR 1 [] km fun wn kn=>wM (QDX lost (by omega))<|qF [] kn fun wo ko=>XD (fun y=>⟨y⟩) (ko.take 4 _)
     · rw[show lost'=lost by rw[hle,eL,ho,decide_eq_false hw];rfl]
       exact tell 87 (decide_eq_false hw)<|qE [] kl fun wm km=>coF<|JC<|XD (fun y=>⟨y⟩) (km.take 4 _)
 clear kj kz
 rintro ⟨y⟩ wk kk
 have KF:=fun W'=>QBS D A2 cap2 W'
 refine qQ [3,0] kk fun wl kl=>coR<|qR 1 [0] kl fun wm km=>qC (KF wm) km fun wn kn=>?_
 have stepN:(XG D&&!D.off)=false→EnI g ans ex (n+1) D k' lost':=fun h=>by rw[h] at step;exact step
 have stepY:(XG D&&!D.off)=true→EnR g ans ex n D lost':=fun h=>by rw[h] at step;exact step
 have out:∀ {W' rs},Many wi [bc,w.heap.size+1,bl] (⟨bc,33,(coC D (.slice A2 D.got.length cap2)).toList.map some⟩ :: ⟨w.heap.size+1,33,(coC zeroCo (.slice none 0 0)).toList.map some⟩ :: rs) W'→(XG D&&!D.off)=false→EnL w bc g ans ex ⟨n+1,k',lost',D,A2,cap2,fun _=>undef⟩ W':=fun k h=>⟨stepN h,hDl,hk'n,hDo,k.row 1 (coC zeroCo (.slice none 0 0)).toList rfl,k.row 0 (coC D (.slice A2 D.got.length cap2)).toList rfl,gZ k,fun hne z e=>by have:=hown z e;omega,lowZ k⟩
 have out:∀ {W' rs} (y:Nat→Value),Many wi [bc,w.heap.size+1,bl] (⟨bc,33,(coC D (.slice A2 D.got.length cap2)).toList.map some⟩ :: ⟨w.heap.size+1,33,(coC zeroCo (.slice none 0 0)).toList.map some⟩ :: rs) W'→(XG D&&!D.off)=false→EnL w bc g ans ex ⟨n+1,k',lost',D,A2,cap2,y⟩ W':=fun y k h=>⟨(out k h).inv,(out k h).len,(out k h).kn,(out k h).ok,(out k h).r0,(out k h).r1,(out k h).g1,(out k h).f1,(out k h).low⟩
 cases e3:XG D with
 | false=>exact qE [] kn fun wo ko=>coF<|JC<|eoB<|eoT<|coZ<|qR 1 [] ko fun wp kp=>wM (QDX n (by omega))<|qF [] kp fun wq kq=>j6 (fun y=>⟨n+1,k',lost',D,A2,cap2,y⟩) (out _ (kq.take 2 [⟨bc,33,(coC D (.slice A2 D.got.length cap2)).toList.map some⟩,⟨w.heap.size+1,33,(coC zeroCo (.slice none 0 0)).toList.map some⟩]) (by rw[e3];rfl)) (by show 401-(n+1) < 401-n;omega)
 | true =>
   refine qR 3 [0] kn fun wo ko=>?_
   cases e4:D.off with
   | true=>exact tell 96 e4<|qE [] ko fun wo ko=>coF<|JC<|eoB<|eoT<|coZ<|qR 1 [] ko fun wp kp=>wM (QDX n (by omega))<|qF [] kp fun wq kq=>j6 (fun y=>⟨n+1,k',lost',D,A2,cap2,y⟩) (out _ (kq.take 2 [⟨bc,33,(coC D (.slice A2 D.got.length cap2)).toList.map some⟩,⟨w.heap.size+1,33,(coC zeroCo (.slice none 0 0)).toList.map some⟩]) (by rw[e3,e4];rfl)) (by show 401-(n+1) < 401-n;omega)
   | false=>exact tell 96 e4<|qE [] ko fun wo ko=>coT<|qQ [0,1] ko fun wp kp=>JF<|Z3<|Jp<|Jp<|Z3<|Jp<|QCV (kp.row 1 (b:=w.heap.size+1) (t:=33) (coC D (.slice A2 D.got.length cap2)).toList (by kernel_rfl)) ⟨D,A2,cap2,n,lost',rfl,stepY (by rw[e3,e4];rfl),lowZ kp⟩
theorem QMk (rd:Int→Bool)(f:List Int→Cy×Bool)(k:Nat)(got ans:List Int)(n:Int)(h:(f got).2=true):(J4 rd f k got ans n).1=n:=by
 cases k with
 | zero=>rfl
 | succ k=>unfold J4;rw[if_pos h]
theorem QMA (rd:Int→Bool)(f:List Int→Cy×Bool)(k:Nat)(got ans:List Int)(n:Int)(h:(f got).2=false):J4 rd f (k+1) got ans n=if rd (f got).1.kind=true then J4 rd f k (got++[ans.headD 0]) ans.tail (n+(f got).1.t) else J4 rd f k (got++[0]) ans (n+(f got).1.t):=by
 rw[J4,if_neg (by rw[h];simp)]
structure AcR where
 k:Nat
 got:List Int
 n:Int
 v:Value
 y:Nat→Value
def arB (h:Nat)(which:Int)(A:Option Addr)(m cap:Nat)(x:AcR):List Value:=[x.y 0,.int .i64 which,.slice A m cap,.pointer (some ⟨h,0,none⟩),x.y 4,x.y 5,x.y 6,x.v,.int .i64 x.n,.int .i64 (x.k:Int),x.y 10,x.y 11,x.y 12,x.y 13,x.y 14,x.y 15,x.y 16,x.y 17,x.y 18,x.y 19,x.y 20,x.y 21,x.y 22,x.y 23,x.y 24,x.y 25,x.y 26,x.y 27,x.y 28,x.y 29,x.y 30,x.y 31,x.y 32,x.y 33,x.y 34,x.y 35,x.y 36,x.y 37,x.y 38,x.y 39,x.y 40,x.y 41,x.y 42,x.y 43,x.y 44,x.y 45,x.y 46,x.y 47,x.y 48,x.y 49,x.y 50,x.y 51,x.y 52,x.y 53,x.y 54,x.y 55,x.y 56,x.y 57,x.y 58]
def arI (w:World)(g:Rg)(which:Int)(xs:List Int)(x:AcR)(W:World):Prop:=(Below w.heap.size w W∧W.ownsRow w.heap.size 5 1 x.v x.got.length (bvs x.got))∧(Bytes8 x.got∧x.k≤x.got.length)∧(x.got.length≤200∧0≤x.n∧x.n≤7*x.got.length)∧J4 Q5 (acF g which) (200-x.got.length) x.got (xs.drop x.k) x.n=J4 Q5 (acF g which) 200 [] xs 0
theorem QAP {w W:World} {g:Rg} {which:Int} {xs got:List Int} {n:Int} {k:Nat} {T:T3}(hT:T=Jr g which got)(hb:T.b=false)(hlt:got.length < 200)(hn0:0≤n)(hn7:n≤7*got.length)(hgo:J4 Q5 (acF g which) (200-got.length) got (xs.drop k) n=J4 Q5 (acF g which) 200 [] xs 0)
 (hg8:Bytes8 got)(hk:k≤got.length)(bt:Int)(hbt:B8 bt)(k':Nat)(v':Value)(y:Nat→Value)(hB:Below w.heap.size w W)(own:W.ownsRow w.heap.size 5 1 v' (got.length+1) (bvs (got++[bt])))
 (he:(Q5 T.c.kind=true∧bt=xs.getD k 0∧k'=k+1)∨(Q5 T.c.kind=false∧bt=0∧k'=k)):arI w g which xs ⟨k',got++[bt],n+T.c.t,v',y⟩ W:=by
 have ht:=QPA g which got (by rw[←hT];exact hb)
 rw[←hT] at ht
 have hl:(got++[bt]).length=got.length+1:=by simp
 refine⟨⟨hB,?_⟩,⟨?_,?_⟩,⟨?_,?_,?_⟩,?_⟩
 · show W.ownsRow _ _ _ v' (got++[bt]).length (bvs (got++[bt]))
   rw[hl];exact own
 · intro x hx
   rcases List.mem_append.1 hx with h|h
   · exact hg8 x h
   · rw[List.mem_singleton.1 h];exact hbt
 · show k'≤(got++[bt]).length
   rcases he with ⟨-,-,h⟩|⟨-,-,h⟩<;>omega
 · show (got++[bt]).length≤200
   omega
 · show 0≤n+T.c.t
   omega
 · show n+T.c.t≤7*((got++[bt]).length:Int)
   rw[hl];push_cast;omega
 · show J4 Q5 (acF g which) (200-(got++[bt]).length) (got++[bt]) (xs.drop k') (n+T.c.t)=_
   rw[←hgo,hl]
   obtain⟨j,hj⟩:∃ j,200-got.length=j+1:=⟨199-got.length,by omega⟩
   have hf2:(acF g which got).2=false:=by show (Jr g which got).b=false;rw[←hT];exact hb
   have hf1:(acF g which got).1=T.c:=by rw[hT];rfl
   rw[hj,QMA _ _ _ _ _ _ hf2,hf1,show 200-(got.length+1)=j by omega]
   rcases he with ⟨h1,h2,h3⟩|⟨h1,h2,h3⟩
   · have e1:(xs.drop k).headD 0=xs.getD k 0:=by
      rw[List.headD_eq_head?_getD,List.head?_drop,List.getD_eq_getElem?_getD]
     rw[if_pos h1,h2,h3,e1,List.tail_drop]
   · rw[if_neg (by rw[h1];simp),h2,h3]
theorem QJN (g:Rg)(hg:RgB g)(which:Int)(A:Option Addr)(cap:Nat)(xs:List Int)(hc:xs.length≤cap)(h8:Bytes8 xs)(hl:xs.length≤1000000000)(w:World)(hin:BytesIn w w.heap.size A xs):Calls Tryz.prog 24 #[JH g,.int .i64 which,.slice A xs.length cap] w fun e w'=>e=.returned (.int .i64 (qa g which xs))∧Below w.heap.size w w':=by
 go_enter Tryz.func24,Tryz.ntmps24
 refine JB<|qQ [] (Many.begin w) fun w1 k1=>qQ [] k1 fun w2 k2=>qQ [] k2 fun w2 k2=>qQ [] k2 fun w3 k3=>coS<|coB<|QHB (arB w.heap.size which A xs.length cap) (arI w3 g which xs) (fun x=>200-x.got.length) (fun y=>⟨0,[],0,.slice none 0 0,y⟩) ⟨⟨Below.refl ..,World.ownsRow_nil ..⟩,⟨(fun x hx=>by cases hx),Nat.le_refl _⟩,⟨Nat.zero_le _,Int.le_refl _,by simp⟩,rfl⟩ ?_
 have hR3:Row w3 w.heap.size 24 (JJ g):=k3.row 0 (JJ g).toList (by kernel_rfl)
 have hB3:=k3.touch.below
 have KA:∀ (k:Nat) (W:World),Below w3.heap.size w3 W→Calls Tryz.prog 39 #[.slice A xs.length cap,.int .i64 (k:Int)] W fun e w'=>e=.returned (.int .u8 (xs.getD k 0))∧Below W.heap.size W w':=fun k W hW=>QEH A cap xs k W ((hin.below (hB3.trans (hW.mono hB3.size))).more (hB3.trans (hW.mono hB3.size)).size)
 clear k3 k2 k1 hin
 rintro ⟨k,got,n,v,y⟩ W ⟨⟨hB,hown⟩,⟨hg8,hk⟩,⟨h200,hn0,hn7⟩,hgo⟩
 have hB:Below w3.heap.size w3 W:=hB
 have hown:W.ownsRow w3.heap.size 5 1 v got.length (bvs got):=hown
 have hg8:Bytes8 got:=hg8
 have hk:k≤got.length:=hk
 have h200:got.length≤200:=h200
 have hn0:0≤n:=hn0
 have hn7:n≤7*got.length:=hn7
 have hgo:J4 Q5 (acF g which) (200-got.length) got (xs.drop k) n=J4 Q5 (acF g which) 200 [] xs 0:=hgo
 obtain⟨Av,cv,rfl,hcv,hbg,hnn⟩:=Zx hown
 have fin:∀ (m:Int) wz,(J4 Q5 (acF g which) (200-got.length) got (xs.drop k) n).1=m→Below w3.heap.size w3 wz→Ending.returned (.int .i64 m)=Ending.returned (.int .i64 (qa g which xs))∧Below w.heap.size w wz:=fun m wz e hb=>⟨by unfold qa;rw[←hgo,e],hB3.trans (hb.mono hB3.size)⟩
 refine coS<|qQ [] (Many.begin W) fun wa ka=>coI (decide ((got.length:Int) < 200)) (fun hlt=>JC<|eoT<|coB<|coR<|wM (qb (ldR ((hR3.below hB hR3.lt).below ka.touch.below (Nat.lt_of_lt_of_le hR3.lt hB.size)).range))<|qR 2 [] ka fun wb kb=>?_) fun hge=>coX<|QMP<|QMP<|QR3<|eoT ?_
 · have hlt:got.length < 200:=by have:(got.length:Int) < 200:=by simpa using hlt
                                 omega
   obtain⟨T,hT⟩:∃ T,T=Jr g which got:=⟨_,rfl⟩
   have hbb:=bOn hB kb
   have KN:=QAX g hg which Av cv got hcv hg8 (by omega) wb ((hbg.below kb.touch.below).more kb.touch.size)
   rw[←hT] at KN
   refine qC KN kb fun wc kc=>qE [0,1] kc fun wd kd=>coS<|qQ [] kd fun we ke=>coI T.b (fun hd=>qQ [] ke fun wf kf=>JF<|Jp<|Z3<|Jp<|Z3<|Jp<|Jj (.int .i64 n) (fin n wf (QMk _ _ _ _ _ _ (by show (Jr g which got).b=true;rw[←hT];exact hd)) (bOn hB kf))) fun hd=>JC<|eoT<|coR<|qR 3 [0] ke fun wf kf=>?_
   have htt:=QPA g which got (by rw[←hT];exact hd)
   rw[←hT] at htt
   refine kBj 30 (.int .i64 n) (.int .i64 T.c.t) (.int .i64 (n+T.c.t)) (egI _ _ _ _ _) (QTN _ _ (by omega) (by omega))<|qE [] kf fun wg kg=>qQ [] kg fun wh kh=>coS<|coR<|qR 3 [0] kh fun wi ki=>?_
   by_cases h1:T.c.kind=1
   · refine tell 33 (show (T.c.kind==1)=true by simp[h1])<|qE [] ki fun wk kk=>coI true (fun _=>coR<|qR 2 [] kk fun wl kl=>qC (KA k wl (bOn hB kl)) kl fun wm km=>qE [] km fun wn kn=>coZ<|qR 1 [] kn fun wo ko=>wM (QDX k (by omega))<|qF [] ko fun wp kp=>eoT<|coZ<|qR 3 [] kp fun wq kq=>qA (.tmp 54) (.tmp 56) w3 w3.heap.size wq.heap.size (.slice Av got.length cv) got.length got (some ⟨wp.heap.size,0,none⟩) 1 [xs.getD k 0] (bOn hB kq) (Nat.le_refl _) (bOn hB kq).size (own_below hown kq.touch.below) (kq.byte (t:=5) 2 (by kernel_rfl)) (fun e=>by cases e) (by show got.length+1≤_;omega) fun v' w' own' hB' hs'=>qF [] (Many.begin w') fun w'' k''=>eoB<|j6 (fun y=>⟨k+1,got++[xs.getD k 0],n+T.c.t,v',y⟩) (QAP hT hd hlt hn0 hn7 hgo hg8 hk (xs.getD k 0) (zn h8 k) (k+1) _ _ (bOn hB' k'') (own_below own' k''.touch.below) (.inl ⟨by rw[h1];rfl,rfl,rfl⟩)) (by show 200-(got++[xs.getD k 0]).length < 200-got.length;simp;omega)) (fun e=>by cases e)
   refine tell 33 (show (T.c.kind==1)=false by simp[h1])<|qR 4 [0] ki fun wi ki=>?_
   by_cases h2:T.c.kind=2
   · refine tell 37 (show (T.c.kind==2)=true by simp[h2])<|qE [] ki fun wk kk=>coI true (fun _=>coR<|qR 2 [] kk fun wl kl=>qC (KA k wl (bOn hB kl)) kl fun wm km=>qE [] km fun wn kn=>coZ<|qR 1 [] kn fun wo ko=>wM (QDX k (by omega))<|qF [] ko fun wp kp=>eoT<|coZ<|qR 3 [] kp fun wq kq=>qA (.tmp 54) (.tmp 56) w3 w3.heap.size wq.heap.size (.slice Av got.length cv) got.length got (some ⟨wp.heap.size,0,none⟩) 1 [xs.getD k 0] (bOn hB kq) (Nat.le_refl _) (bOn hB kq).size (own_below hown kq.touch.below) (kq.byte (t:=5) 2 (by kernel_rfl)) (fun e=>by cases e) (by show got.length+1≤_;omega) fun v' w' own' hB' hs'=>qF [] (Many.begin w') fun w'' k''=>eoB<|j6 (fun y=>⟨k+1,got++[xs.getD k 0],n+T.c.t,v',y⟩) (QAP hT hd hlt hn0 hn7 hgo hg8 hk (xs.getD k 0) (zn h8 k) (k+1) _ _ (bOn hB' k'') (own_below own' k''.touch.below) (.inl ⟨by rw[h2];rfl,rfl,rfl⟩)) (by show 200-(got++[xs.getD k 0]).length < 200-got.length;simp;omega)) (fun e=>by cases e)
   refine tell 37 (show (T.c.kind==2)=false by simp[h2])<|qR 5 [0] ki fun wi ki=>?_
   by_cases h3:T.c.kind=4
   · refine tell 42 (show (T.c.kind==4)=true by simp[h3])<|qE [] ki fun wk kk=>coI true (fun _=>coR<|qR 2 [] kk fun wl kl=>qC (KA k wl (bOn hB kl)) kl fun wm km=>qE [] km fun wn kn=>coZ<|qR 1 [] kn fun wo ko=>wM (QDX k (by omega))<|qF [] ko fun wp kp=>eoT<|coZ<|qR 3 [] kp fun wq kq=>qA (.tmp 54) (.tmp 56) w3 w3.heap.size wq.heap.size (.slice Av got.length cv) got.length got (some ⟨wp.heap.size,0,none⟩) 1 [xs.getD k 0] (bOn hB kq) (Nat.le_refl _) (bOn hB kq).size (own_below hown kq.touch.below) (kq.byte (t:=5) 2 (by kernel_rfl)) (fun e=>by cases e) (by show got.length+1≤_;omega) fun v' w' own' hB' hs'=>qF [] (Many.begin w') fun w'' k''=>eoB<|j6 (fun y=>⟨k+1,got++[xs.getD k 0],n+T.c.t,v',y⟩) (QAP hT hd hlt hn0 hn7 hgo hg8 hk (xs.getD k 0) (zn h8 k) (k+1) _ _ (bOn hB' k'') (own_below own' k''.touch.below) (.inl ⟨by rw[h3];rfl,rfl,rfl⟩)) (by show 200-(got++[xs.getD k 0]).length < 200-got.length;simp;omega)) (fun e=>by cases e)
   refine tell 42 (show (T.c.kind==4)=false by simp[h3])<|qR 5 [0] ki fun wi ki=>?_
   by_cases h4:T.c.kind=6
   · refine tell 47 (show (T.c.kind==6)=true by simp[h4])<|qE [] ki fun wk kk=>coI true (fun _=>coR<|qR 2 [] kk fun wl kl=>qC (KA k wl (bOn hB kl)) kl fun wm km=>qE [] km fun wn kn=>coZ<|qR 1 [] kn fun wo ko=>wM (QDX k (by omega))<|qF [] ko fun wp kp=>eoT<|coZ<|qR 3 [] kp fun wq kq=>qA (.tmp 54) (.tmp 56) w3 w3.heap.size wq.heap.size (.slice Av got.length cv) got.length got (some ⟨wp.heap.size,0,none⟩) 1 [xs.getD k 0] (bOn hB kq) (Nat.le_refl _) (bOn hB kq).size (own_below hown kq.touch.below) (kq.byte (t:=5) 2 (by kernel_rfl)) (fun e=>by cases e) (by show got.length+1≤_;omega) fun v' w' own' hB' hs'=>qF [] (Many.begin w') fun w'' k''=>eoB<|j6 (fun y=>⟨k+1,got++[xs.getD k 0],n+T.c.t,v',y⟩) (QAP hT hd hlt hn0 hn7 hgo hg8 hk (xs.getD k 0) (zn h8 k) (k+1) _ _ (bOn hB' k'') (own_below own' k''.touch.below) (.inl ⟨by rw[h4];rfl,rfl,rfl⟩)) (by show 200-(got++[xs.getD k 0]).length < 200-got.length;simp;omega)) (fun e=>by cases e)
   have hr:Q5 T.c.kind=false:=by unfold Q5;simp[h1,h2,h3,h4]
   refine tell 47 (show (T.c.kind==6)=false by simp[h4])<|qE [] ki fun wk kk=>coF<|JC<|eoT<|coZ<|qR 3 [] kk fun wq kq=>?_
   refine qA (.tmp 54) (.tmp 56) w3 w3.heap.size wq.heap.size (.slice Av got.length cv) got.length got (some ⟨wk.heap.size,0,none⟩) 1 [0] (bOn hB kq) (Nat.le_refl _) (bOn hB kq).size (own_below hown kq.touch.below) (kq.byte (t:=5) 2 (by kernel_rfl)) (fun e=>by cases e) (by show got.length+1≤_;omega) fun v' w' own' hB' hs'=>qF [] (Many.begin w') fun w'' k''=>eoB<|j6 (fun y=>⟨k,got++[0],n+T.c.t,v',y⟩) (QAP hT hd hlt hn0 hn7 hgo hg8 hk 0 B8.zero k _ _ (bOn hB' k'') (own_below own' k''.touch.below) (.inr ⟨hr,rfl,rfl⟩)) (by show 200-(got++[0]).length < 200-got.length;simp;omega)
 · have h0:200-got.length=0:=by have:¬(got.length:Int) < 200:=by simpa using hge
                                omega
   refine qQ [] ka fun wb kb=>JF<|Jj (.int .i64 n) (fin n wb (by rw[h0];rfl) (bOn hB kb))
theorem QOP (g:Rg)(ans:List Int):0≤qa g 0 ans∧qa g 0 ans≤1400:=by
 have h:=QMu (rd:=Q5) (f:=acF g 0) (fun xs hb=>QPA g 0 xs hb) 200 [] ans 0
 unfold qa
 omega
theorem QEj (g:Rg)(A:Option Addr)(cap:Nat)(ans:List Int)(Ae:Option Addr)(cape:Nat)(ex:List Bool)(hg:RgB g)(w:World)
 (hl:ans.length≤cap)(hm:cap≤maxLen)(h8:Bytes8 ans)(hin:BytesIn w w.heap.size A ans)(hn:A=none→cap=0)(hle:ex.length≤cape)(hme:cape≤maxLen)(hex:ValsIn w w.heap.size Ae (blv ex))(hne:Ae=none→cape=0)(hS:Samps w)(hM:Masks w)(hD:Digits w)(hC:Courses w)(hO:QBl w) :
 Calls Tryz.prog 5 #[JH g,.slice A ans.length cap,.slice Ae ex.length cape] w fun e w'=>e=.returned (.bool true)∧Below w.heap.size w w':=by
 have ht:Tabs w w.heap.size:=(NextTabs.mk hM hC hD hO).tabs
 have hA:jJ:=QKj ht
 go_enter Tryz.func5,Tryz.ntmps5
 refine JB<|qQ [] (Many.begin w) fun w1 k1=>coR<|qC (QAE hA w1 (ht.below k1.touch.below) (hS.below k1.touch.below)) k1 fun w2 k2=>qE [] k2 fun w3 k3=>coS<|qQ [] k3 fun w4 k4=>coF<|JC<|eoT<|coS<|coR<|qR 3 [] k4 fun w5 k5=>?_
 by_cases h1:(ans.length:Int) > 40
 · exact tell 20 (decide_eq_true h1)<|qE [] k5 fun w6 k6=>coT<|qQ [] k6 fun w7 k7=>JF<|Jp<|Jj (.bool true) ⟨rfl,k7.touch.below⟩
 refine tell 20 (decide_eq_false h1)<|qR 4 [] k5 fun w6 k6=>?_
 by_cases h2:(ex.length:Int) > 60
 · exact tell 24 (decide_eq_true h2)<|qE [] k6 fun w6 k6=>coT<|qQ [] k6 fun w7 k7=>JF<|Jp<|Jj (.bool true) ⟨rfl,k7.touch.below⟩
 have hin':∀ {W},Below w.heap.size w W→BytesIn W W.heap.size A ans:=fun h=>(hin.below h).more h.size
 have hex':∀ {W},Below w.heap.size w W→ValsIn W W.heap.size Ae (blv ex):=fun h=>(hex.below h).more h.size
 refine tell 24 (decide_eq_false h2)<|qE [] k6 fun w6 k6=>coF<|JC<|eoT<|coR<|qR 3 [0] k6 fun w7 k7=>kX (QFM hA g hg A cap ans Ae cape ex (by omega) (by omega) h8 w7 (hin' k7.touch.below) (hex' k7.touch.below) (ht.below k7.touch.below) (hS.below k7.touch.below)) fun e w8 ⟨c,A1,cap1,n,lost,he,hr,hb⟩=>⟨_,he,?_⟩
 refine qE [1] (k7.below hb) fun w9 k9=>coR<|qR 2 [0] k9 fun wa ka=>kX (QFM hA g hg A cap ans none 0 [] (by omega) (by simp) h8 wa (hin' ka.touch.below) (ValsIn.nil _ _ _) (ht.below ka.touch.below) (hS.below ka.touch.below)) fun e wb ⟨d,A2,cap2,m,lost2,he2,hr2,hb2⟩=>⟨_,he2,?_⟩
 have hl2:lost2=0:=by have:=hr2.le;simpa using this
 subst hl2
 obtain⟨st,hst⟩:∃ st,st=qa g 0 ans:=⟨_,rfl⟩
 have hen:(qV g ans).1=st:=hst.symm▸rfl
 have t1:=hr.time
 have t2:=hr2.time
 have hb3:=QOP g ans
 rw[←hst] at hb3
 rw[hen] at t1 t2
 have hll:=hr.le
 have KS:=fun (W:World) (h:Below w.heap.size w W)=>QJN g hg 0 A cap ans hl h8 (by omega) W (hin' h)
 rw[←hst] at KS
 have er:c.r=d.r:=hr.r.trans hr2.r.symm
 refine qE [2] (ka.below hb2) fun wc kc=>coR<|qR 2 [0] kc fun wd kd=>qC (KS wd kd.touch.below) kd fun we ke=>qE [] ke fun wf kf=>coS<|coR<|qR 3 [] kf fun wg kg=>tell 46 (show ((m:Int) != st)=false by simp;omega)<|qR 8 [] kg fun wh kh=>kBj 55 (.int .i64 st) (.int .i64 (lost:Int)) (.int .i64 (st+lost)) (egI _ _ _ _ _) (QIj _ _ (by omega) (by omega))<|qR 1 [] kh fun wi ki=>tell 56 (show ((n:Int) != st+lost)=false by simp;omega)<|qE [] ki fun wj kj=>coF<|JC<|eoT<|?_
 exact coR<|qR 4 [1,2] kj fun wk kk=>kBj 62 (JH c.r) (JH d.r) (.bool true) (QBQ _ _ _ _ _) (fun w=>by rw[er];exact QD2 d.r w)<|qE [] kk fun wl kl=>JF<|Jj (.bool true) ⟨rfl,kl.touch.below⟩
end Go.Proofs.YtkenebbjodcbcaaGreatDoor
