/- The law's walk and what it wants (several texts in one). -/
import Derived.Test.YtkenebbjodcbcaaGreatDoorCoH30
namespace Go.Proofs.YtkenebbjodcbcaaGreatDoor
open Go.RowKit
set_option linter.unusedVariables false
set_option linter.unusedSimpArgs false
set_option maxRecDepth 20000
set_option maxHeartbeats 20000000
structure TkX where
 i:Nat
 d:CoT
 A1:Option Addr
 cap1:Nat
 A2:Option Addr
 cap2:Nat
 y:Nat→Value
def tkB (h bc bw:Nat)(S1 S2:Value)(x:TkX):List Value:=[x.y 0,S1,S2,pT h 0,x.y 4,x.y 5,x.y 6,x.y 7,pT bc 0,pT bw 0,.int .i64 (x.i:Int),x.y 11,x.y 12,x.y 13,x.y 14,x.y 15,x.y 16,x.y 17,x.y 18,x.y 19,x.y 20,x.y 21,x.y 22,x.y 23,x.y 24,x.y 25,x.y 26,x.y 27,x.y 28,x.y 29,x.y 30,x.y 31,x.y 32,x.y 33,x.y 34,x.y 35,x.y 36,x.y 37,x.y 38,x.y 39,x.y 40,x.y 41,x.y 42,x.y 43,x.y 44,x.y 45,x.y 46,x.y 47,x.y 48,x.y 49,x.y 50,x.y 51,x.y 52,x.y 53,x.y 54,x.y 55,x.y 56,x.y 57,x.y 58,x.y 59,x.y 60,x.y 61,x.y 62,x.y 63,x.y 64,x.y 65,x.y 66,x.y 67,x.y 68,x.y 69,x.y 70,x.y 71,x.y 72,x.y 73,x.y 74,x.y 75,x.y 76,x.y 77,x.y 78,x.y 79,x.y 80,x.y 81,x.y 82,x.y 83,x.y 84,x.y 85,x.y 86,x.y 87,x.y 88,x.y 89,x.y 90,x.y 91,x.y 92,x.y 93,x.y 94,x.y 95,x.y 96,x.y 97,x.y 98,x.y 99,x.y 100,x.y 101,x.y 102,x.y 103,x.y 104,x.y 105,x.y 106,x.y 107,x.y 108,x.y 109,x.y 110,x.y 111]
def tkC (h bc bw:Nat)(S1 S2:Value)(i:Nat)(b:Int)(x:js):List Value:=[x.y 0,S1,S2,pT h 0,x.y 4,x.y 5,x.y 6,x.y 7,pT bc 0,pT bw 0,.int .i64 (i:Int),.int .u8 b,x.y 12,x.y 13,x.y 14,x.y 15,x.y 16,x.y 17,x.y 18,x.y 19,x.y 20,x.y 21,x.y 22,x.y 23,x.y 24,x.y 25,x.y 26,x.y 27,x.y 28,x.y 29,x.y 30,x.y 31,x.y 32,x.y 33,x.y 34,x.y 35,x.y 36,x.y 37,x.y 38,x.y 39,x.y 40,x.y 41,x.y 42,x.y 43,x.y 44,x.y 45,x.y 46,x.y 47,x.y 48,x.y 49,x.y 50,x.y 51,x.y 52,x.y 53,x.y 54,x.y 55,x.y 56,x.y 57,x.y 58,x.y 59,x.y 60,x.y 61,x.y 62,x.y 63,x.y 64,x.y 65,x.y 66,x.y 67,x.y 68,x.y 69,x.y 70,x.y 71,x.y 72,x.y 73,x.y 74,x.y 75,x.y 76,x.y 77,x.y 78,x.y 79,x.y 80,x.y 81,x.y 82,x.y 83,x.y 84,x.y 85,x.y 86,x.y 87,x.y 88,x.y 89,x.y 90,x.y 91,x.y 92,x.y 93,x.y 94,x.y 95,x.y 96,x.y 97,x.y 98,x.y 99,x.y 100,x.y 101,x.y 102,x.y 103,x.y 104,x.y 105,x.y 106,x.y 107,x.y 108,x.y 109,x.y 110,x.y 111]
structure TkI (w:World)(bc bw:Nat)(n:Nat)(x:TkX)(W:World):Prop where
 le:x.i≤n
 len:x.d.got.length≤x.i
 ok:OkC x.d
 r1:Row W bc 33 (coC x.d (.slice x.A1 x.d.got.length x.cap1))
 r2:Row W bw 37 (coC x.d (.slice x.A2 x.d.got.length x.cap2))
 g1:GotIn W W.heap.size (.slice x.A1 x.d.got.length x.cap1) x.d.got
 g2:GotIn W W.heap.size (.slice x.A2 x.d.got.length x.cap2) x.d.got
 f1:x.d.got≠[]→∀ z,(Value.slice x.A1 x.d.got.length x.cap1).ownBlock=some z→bw < z
 f2:x.d.got≠[]→∀ z,(Value.slice x.A2 x.d.got.length x.cap2).ownBlock=some z→bw < z
 low:Below w.heap.size w W
theorem QSI (b:Bool)(w:World):(binOp .neq 4 (.bool b) (.bool b)).run Tryz.prog w=.ok (.bool false) w:=by simp[go_sem]
theorem cvI8 (i:Nat)(h:i < 256)(w:World):(convert 3 5 (.int .i64 (i:Int))).run Tryz.prog w=.ok (.int .u8 (i:Int)) w:=by
 have e:IntKind.u8.wrap (i:Int)=(i:Int):=by rw[IntKind.wrap_u8];omega
 simp[go_sem,e]
theorem GotIn.lt {w:World} {B:Nat} {A:Option Addr} {n cap:Nat} {xs:List Int}(h:GotIn w B (.slice A n cap) xs)(hne:xs≠[]):∀ z,(Value.slice A n cap).ownBlock=some z→z < B:=by
 obtain⟨A',cap',e,-,h2,-⟩:=h
 injection e with e1 e2 e3
 subst e1
 exact QPR h2 hne
theorem QEF (g:Rg)(As:Option Addr)(caps:Nat)(ls:List LnT)(Ab:Option Addr)(capb:Nat)(bs:List Int)(hg:RgB g)(w:World)
 (hls:ls.length≤caps)(hms:caps≤maxLen)(hlin:LnsIn w w.heap.size As ls)(hns:As=none→caps=0)(hlb:bs.length≤capb)(hmb:capb≤maxLen)(hb8:Bytes8 bs)(hbin:BytesIn w w.heap.size Ab bs)(hnb:Ab=none→capb=0)(hS:Samps w)(hM:Masks w)(hD:Digits w)(hC:Courses w)(hO:QBl w) :
 Calls Tryz.prog 3 #[JH g,.slice As ls.length caps,.slice Ab bs.length capb] w fun e w'=>e=.returned (.bool true)∧Below w.heap.size w w':=by
 have ht:Tabs w w.heap.size:=(NextTabs.mk hM hC hD hO).tabs
 have hA:jJ:=QKj ht
 obtain⟨N,hN⟩:∃ N,N=QBc g:=⟨_,rfl⟩
 have hNo:OkC N:=by rw[hN];exact OkC.new hg
 have hNg:N.got=[]:=by rw[hN];rfl
 have K1:=fun (W:World) (h:Tabs W W.heap.size)=>QBm g hg W h
 have K2:=fun (W:World)=>QE1 g hg W
 rw[←hN] at K1 K2
 go_enter Tryz.func3,Tryz.ntmps3
 refine JB<|qQ [] (Many.begin w) fun w1 k1=>coR<|qC (QAE hA w1 (ht.below k1.touch.below) (hS.below k1.touch.below)) k1 fun w2 k2=>qE [] k2 fun w3 k3=>coS<|qQ [] k3 fun w4 k4=>coF<|JC<|eoT<|coS<|coR<|qR 3 [] k4 fun w5 k5=>?_
 by_cases h1:(ls.length:Int) > 120
 · exact tell 22 (decide_eq_true h1)<|qE [] k5 fun w6 k6=>coT<|qQ [] k6 fun w7 k7=>JF<|Jp<|Jj (.bool true) ⟨rfl,k7.touch.below⟩
 refine tell 22 (decide_eq_false h1)<|qR 4 [] k5 fun w6 k6=>?_
 by_cases h2:(bs.length:Int) > 120
 · exact tell 26 (decide_eq_true h2)<|qE [] k6 fun w6 k6=>coT<|qQ [] k6 fun w7 k7=>JF<|Jp<|Jj (.bool true) ⟨rfl,k7.touch.below⟩
 refine tell 26 (decide_eq_false h2)<|qE [] k6 fun w6 k6=>coF<|JC<|eoT<|coR<|qR 1 [0] k6 fun w7 k7=>qC (K1 w7 (ht.below k7.touch.below)) k7 fun w8 k8=>qE [1] k8 fun w9 k9=>coR<|qR 1 [0] k9 fun wa ka=>qC (K2 wa) ka fun wb kb=>qE [2] kb fun wc kc=>coS<|qQ [] kc fun wd kd=>coB<|?_
 have r1:Row wd w8.heap.size 33 (coC N (.slice none 0 0)):=kd.row 1 (coC N (.slice none 0 0)).toList (by kernel_rfl)
 have r2:Row wd wb.heap.size 37 (coC N (.slice none 0 0)):=kd.row 2 (coC N (.slice none 0 0)).toList (by kernel_rfl)
 have hbc:w.heap.size≤w8.heap.size:=k8.touch.size
 have hbw:w8.heap.size < wb.heap.size:=kb.lt 1 ⟨w8.heap.size,33,(coC N (.slice none 0 0)).toList.map some⟩ (by kernel_rfl)
 have lowd:=kd.touch.below
 refine QHB (tkB w.heap.size w8.heap.size wb.heap.size (.slice As ls.length caps) (.slice Ab bs.length capb)) (TkI w w8.heap.size wb.heap.size ls.length) (fun x=>ls.length+1-x.i) (fun y=>⟨0,N,none,0,none,0,y⟩) ⟨Nat.zero_le _,by rw[hNg];exact Nat.le_refl _,hNo,by rw[hNg];exact r1,by rw[hNg];exact r2,by rw[hNg];exact QB1 _ _,by rw[hNg];exact QB1 _ _,fun h=>absurd hNg h,fun h=>absurd hNg h,lowd⟩ ?_
 clear k1 k2 k3 k4 k5 k6 k7 k8 k9 ka kb kc kd r1 r2 lowd K1 K2
 generalize w8.heap.size=bc at *
 generalize wb.heap.size=bw at *
 rintro ⟨i,d,A1,cap1,A2,cap2,y⟩ W ⟨hi,hlen,hdo,r1,r2,g1,g2,f1,f2,low⟩
 dsimp only at hi hlen hdo r1 r2 g1 g2 f1 f2 low
 refine coS<|qQ [] (Many.begin W) fun wa ka=>coI (decide ((i:Int) < (ls.length:Int))) (fun hlt=>JC<|eoT<|coS<|coB<|?_) fun hge=>coX<|QMP<|QMP<|QR3<|eoT ?_
 · have hil:i < ls.length:=by
    have:(i:Int) < (ls.length:Int):=by simpa using hlt
    omega
   obtain⟨p,rfl⟩:=hlin.addr hil
   have r1a:=r1.below ka.touch.below r1.lt
   have r2a:=r2.below ka.touch.below r2.lt
   have lowa:=bOn low ka
   have g1a:=g1.on ka.touch.below
   have g2a:=g2.on ka.touch.below
   have km:=Many.two r1a r2a (by omega)
   have lowK:∀ {W' rs},Many wa [bc,bw] rs W'→Below w.heap.size w W':=fun k=>Kept.low lowa (Kept.of_touch k.touch) lowa.size fun x e=>by simp at e;omega
   have g1K:∀ {W' rs},Many wa [bc,bw] rs W'→GotIn W' W'.heap.size (.slice A1 d.got.length cap1) d.got:=fun k=>g1a.stay (Kept.of_touch k.touch) fun hne x e h=>by
    have:=f1 hne x e
    simp at h
    omega
   have g2K:∀ {W' rs},Many wa [bc,bw] rs W'→GotIn W' W'.heap.size (.slice A2 d.got.length cap2) d.got:=fun k=>g2a.stay (Kept.of_touch k.touch) fun hne x e h=>by
    have:=f2 hne x e
    simp at h
    omega
   obtain⟨b,hbd⟩:∃ b:Int,b=if i < bs.length then bs.getD i 0 else (i:Int):=⟨_,rfl⟩
   have hbB:B8 b:=by
    rw[hbd]
    split
    · exact hb8.getD i
    · exact⟨by omega,by omega⟩
   obtain⟨l,hle⟩:∃ l,l=ls[i]:=⟨_,rfl⟩
   obtain⟨D,hDd⟩:∃ D,D=Xr d l b:=⟨_,rfl⟩
   obtain⟨x,hx⟩:∃ x,x=ju d l:=⟨_,rfl⟩
   obtain⟨q,hq⟩:∃ q,q=Xh d l:=⟨_,rfl⟩
   obtain⟨E,hE⟩:∃ E,E=QF4 d l b:=⟨_,rfl⟩
   obtain⟨F,hF⟩:∃ F,F=XG d:=⟨_,rfl⟩
   have hDo:OkC D:=by rw[hDd];exact hdo.tick hA l hbB
   have hDl:D.got.length≤i+1:=by have:=QI7 d l b;rw[←hDd] at this;omega
   have KA:=fun (W':World) (h:Below w.heap.size w W')=>QAs d A1 d.got.length cap1 l W' (hS.below h)
   have KB:=fun (W':World)=>QDN d A2 d.got.length cap2 l W'
   have KE:=fun (W':World) (h:Below w.heap.size w W') (h2:GotIn W' W'.heap.size (.slice A1 d.got.length cap1) d.got)=>QF3 hA d hdo l b hbB (.slice A1 d.got.length cap1) (by omega) W' h2 (ht.below h) (hS.below h)
   have KF:=fun (W':World) (h2:GotIn W' W'.heap.size (.slice A2 d.got.length cap2) d.got)=>QDO hA d hdo l b hbB (.slice A2 d.got.length cap2) (by omega) W' h2
   have KG:=fun (W':World)=>QBS d A1 cap1 W'
   have KH:=fun (W':World)=>QHf d A2 cap2 W'
   have KT:=fun (W':World) (h:Below w.heap.size w W') (h2:GotIn W' W'.heap.size (.slice A1 d.got.length cap1) d.got)=>jl hA d hdo l b hbB (.slice A1 d.got.length cap1) (by omega) W' h2 (ht.below h) (hS.below h)
   have KR:=fun (W':World) (h2:GotIn W' W'.heap.size (.slice A2 d.got.length cap2) d.got)=>QAG hA d hdo l b hbB (.slice A2 d.got.length cap2) (by omega) W' h2
   rw[←hx,←hq] at KA KB
   rw[←hE] at KE KF
   rw[←hF] at KG KH
   rw[←hDd] at KT KR
   refine coR<|qR 1 [] km fun wb kb=>wM (QPO (cvI8 i (by omega) _))<|qE [] kb fun wc kc=>?_
   refine QBJ (tkC w.heap.size bc bw (.slice (some p) ls.length caps) (.slice Ab bs.length capb) i b) (fun _ W'=>Many wa [bc,bw] [⟨bc,33,(coC d (.slice A1 d.got.length cap1)).toList.map some⟩,⟨bw,37,(coC d (.slice A2 d.got.length cap2)).toList.map some⟩] W') ?_ ?_
   · refine qQ [] kc fun wd kd=>coI (decide ((i:Int) < (bs.length:Int))) (fun hb=>?_) fun hb=>?_
     · have hib:i < bs.length:=by
        have:(i:Int) < (bs.length:Int):=by simpa using hb
        omega
       obtain⟨pb,rfl⟩:=hbin.addr hib
       have eb:b=bs[i]:=by rw[hbd,if_pos hib,List.getD_eq_getElem?_getD,List.getElem?_eq_getElem hib];rfl
       rw[eb]
       exact coZ<|qR 2 [] kd fun we ke=>wM (jG (ixB pb bs.length capb i hib _))<|wM (qb ((hbin.below (lowK ke)).ld hib))<|qF [] ke fun wf kf=>XD (fun y=>⟨y⟩) (kf.take 2 _)
     · have hib:¬i < bs.length:=by
        have:¬(i:Int) < (bs.length:Int):=by simpa using hb
        omega
       have eb:b=(i:Int):=by rw[hbd,if_neg hib]
       rw[eb]
       exact JC<|XD (fun y=>⟨y⟩) (kd.take 2 _)
   clear kb kc km
   rintro ⟨y⟩ wd kd
   refine coR<|qR 2 [] kd fun we ke=>wM (jG (ixLn p ls.length caps i hil _))<|wM (qb ((hlin.below (lowK ke)).ld hil)) ?_
   rw[←hle]
   refine qE [2] ke fun wf kf=>coR<|qR 2 [0,2] kf fun wg kg=>qC (KA wg (lowK kg)) kg fun wh kh=>qE [3] kh fun wi ki=>?_
   have rw_:Row wi bw 37 (coC d (.slice A2 d.got.length cap2)):=ki.row 1 (coC d (.slice A2 d.got.length cap2)).toList (by kernel_rfl)
   have rl:Row wi we.heap.size 40 (lnC l):=ki.row 2 (lnC l).toList (by kernel_rfl)
   refine QRs [(some 59,.val (coV d (.slice A2 d.got.length cap2))),(some 60,.val (lnV l)),(some 61,.call (lnV l)),(some 62,.call (.tuple #[cyV x,.bool q])),(some 58,.val (.tuple #[cyV x,.bool q])),(some 63,.val (cyV x)),(some 64,.val (.bool q)),(some 15,.box 29 (cyC JL) (some (8,cyC x)) none),(none,.put 7),(some 16,.val (.bool q))] ⟨fun p _ a w I hd=>jC rfl (by kernel_rfl) (QLB (rw_.below I.below rw_.lt)),fun p _ a w I hd=>jC rfl (by kernel_rfl) (QLB (rl.below I.below rl.lt)),fun p _ a w I hd=>⟨_,_,(by kernel_rfl),Zq l w⟩,fun p _ a w I hd=>⟨_,_,(by kernel_rfl),KB w⟩,fun p _ a w I hd=>XZ (.inl rfl) (by kernel_rfl) w,fun p _ a w I hd=>XB (vs:=#[cyV x,.bool q]) rfl (by kernel_rfl) (by kernel_rfl) w,fun p _ a w I hd=>XB (vs:=#[cyV x,.bool q]) rfl (by kernel_rfl) (by kernel_rfl) w,⟨fun k vs e=>(by cases e;rfl),fun p _ a w I hd=>Qg rfl (jc w)⟩,fun p _ a w I hd d t z s vs hj hr=>(by cases hj;exact Qy rfl (by kernel_rfl) (by kernel_rfl) (QBY hr)),fun p _ a w I hd=>XZ (.inr rfl) (by kernel_rfl) w,trivial⟩ fun pp wj hE=>?_
   have hCb:=hE.2.1 7 _ _ _ _ _ rfl
   have kj:=ki.fresh hE.1 hCb.2 hCb.1
   have kj:=kj.take 5 [⟨bc,33,(coC d (.slice A1 d.got.length cap1)).toList.map some⟩,⟨bw,37,(coC d (.slice A2 d.got.length cap2)).toList.map some⟩,⟨we.heap.size,40,(lnC l).toList.map some⟩,⟨wh.heap.size,29,(cyC x).toList.map some⟩,⟨pp 7,29,(cyC x).toList.map some⟩]
   have hwe:wa.heap.size≤we.heap.size:=ke.touch.size
   clear kd ke kf kg kh ki rw_ rl hE hCb
   refine coS<|qP 31 kj fun wk kk=>qD 3 [0] kk<|qD 4 [1] kk<|qT 2 kk (fun w' _=>ZD (QCI _ _ _ _ _ _) (QSE x _))<|qM [3,4,5] kk<|qT 6 kk (fun w' _=>ZD (QJb _ _ _ _ _ _) (QSI q _))<|qM [7,8] kk<|qD 0 [9] kk<|qD 2 [10] kk<|qM [11] kk<|qD 1 [13] kk<|qD 2 [14] kk<|qM [16] kk<|qDc 12 (KE wk (lowK kk) (g1K kk)) kk fun wl kl=>qDc 15 (Zq l wl) kl fun wm km=>qDc 17 (KF wm (g2K km)) km fun wn kn=>qT 18 kn (fun w' _=>ZD (QJb _ _ _ _ _ _) (QSI E _))<|qM [19,20] kn<|qD 0 [21] kn<|qD 1 [23] kn<|qDc 22 (KG wn) kn fun wo ko=>qDc 24 (KH wo) ko fun wp kp=>qT 25 kp (fun w' _=>ZD (QJb _ _ _ _ _ _) (QSI F _))<|qM [26,27] kp<|qD 0 [28] kp<|qD 1 [30] kp<|qDc 29 (Zt d A1 d.got.length cap1 wp) kp fun wq kq=>poE<|qC (QBZ d hdo.got _ _ wq (g1K kq) (g2K kq)) kq fun wr kr=>qE [] kr fun ws ks=>coF<|JC<|eoT<|coR<|qR 3 [0,2] ks fun wt kt=>?_
   have hbt:bw < wt.heap.size∧we.heap.size < wt.heap.size:=⟨kt.lt 1 ⟨bw,37,(coC d (.slice A2 d.got.length cap2)).toList.map some⟩ (by kernel_rfl),kt.lt 2 ⟨we.heap.size,40,(lnC l).toList.map some⟩ (by kernel_rfl)⟩
   refine kX (KT wt (lowK kt) (g1K kt)) fun e wu ⟨v1,he,hg1,ho1,hbu⟩=>⟨_,he,?_⟩
   have hg1':=hg1
   obtain⟨B1,e1,rfl,-⟩:=hg1'
   have ku:=(kt.below hbu).take 3 [⟨bc,33,(coC d (.slice A1 d.got.length cap1)).toList.map some⟩,⟨bw,37,(coC d (.slice A2 d.got.length cap2)).toList.map some⟩,⟨we.heap.size,40,(lnC l).toList.map some⟩]
   have lowu:=lowK ku
   have g2u:=g2K ku
   have kv:=ku.anewK (Kept.refl (fun _=>False) wu) [bc,bw,we.heap.size] (fun _ _ h=>h)
   clear kj kt ku
   have g1V:∀ {W' rs},Many wu [bc,bw,we.heap.size] rs W'→GotIn W' W'.heap.size (.slice B1 D.got.length e1) D.got:=fun k=>hg1.stay (Kept.of_touch k.touch) fun hne x e h=>by
    have:=ho1 x e
    simp at h
    omega
   have g2V:∀ {W' rs},Many wu [bc,bw,we.heap.size] rs W'→GotIn W' W'.heap.size (.slice A2 d.got.length cap2) d.got:=fun k=>g2u.stay (Kept.of_touch k.touch) fun hne x e h=>by
    have h1:=f2 hne x e
    have h2:=g2a.lt hne x e
    simp at h
    omega
   have lowV:∀ {W' rs},Many wu [bc,bw,we.heap.size] rs W'→Below w.heap.size w W':=fun k=>Kept.low lowu (Kept.of_touch k.touch) lowu.size fun x e=>by have:=lowa.size;simp at e;omega
   refine qE [0] kv fun wv kv=>qPz 4 kv fun ww kw=>qD 1 [0] kw<|qD 2 [1] kw<|qM [3] kw<|qDc 2 (Zq l ww) kw fun wx kx=>poE<|?_
   have hbx:bw < wx.heap.size∧we.heap.size < wx.heap.size:=⟨kx.lt 1 ⟨bw,37,(coC d (.slice A2 d.got.length cap2)).toList.map some⟩ (by kernel_rfl),kx.lt 2 ⟨we.heap.size,40,(lnC l).toList.map some⟩ (by kernel_rfl)⟩
   have g1x:=g1V kx
   refine kX (KR wx (g2V kx)) fun e wy ⟨v2,he,hg2,ho2,hby⟩=>⟨_,he,?_⟩
   have hg2':=hg2
   obtain⟨B2,e2,rfl,-⟩:=hg2'
   have ky:=(kx.below hby).take 2 [⟨bc,33,(coC D (.slice B1 D.got.length e1)).toList.map some⟩,⟨bw,37,(coC d (.slice A2 d.got.length cap2)).toList.map some⟩]
   have lowy:=lowV ky
   have g1y:=g1x.on hby
   have kz:=ky.anewK (Kept.refl (fun _=>False) wy) [bc,bw] (fun _ _ h=>h)
   have far2:D.got≠[]→∀ z,(Value.slice B2 D.got.length e2).ownBlock=some z→bw < z:=fun hne z e=>by
    rcases ho2 z e with h|h
    · omega
    · exact f2 (fun hd=>hne (h.2.trans hd)) z h.1
   refine qF [1] kz fun wA kA=>eoB<|eoT<|coZ<|qR 1 [] kA fun wB kB=>wM (QDX i (by omega))<|qF [] kB fun wC kC=>j6 (fun y=>⟨i+1,D,B1,e1,B2,e2,y⟩) ⟨by show i+1≤_;omega,hDl,hDo,kC.row 0 (coC D (.slice B1 D.got.length e1)).toList (by kernel_rfl),kC.row 1 (coC D (.slice B2 D.got.length e2)).toList (by kernel_rfl),?_,?_,?_,far2,?_⟩ (by show ls.length+1-(i+1) < ls.length+1-i;omega)
   · exact g1y.stay (Kept.of_touch kC.touch) fun hne x e h=>by
      have:=ho1 x e
      simp at h
      omega
   · exact hg2.stay (Kept.of_touch kC.touch) fun hne x e h=>by
      have:=far2 hne x e
      simp at h
      omega
   · exact fun hne z e=>by have:=ho1 z e;omega
   · exact Kept.low lowy (Kept.of_touch kC.touch) lowy.size fun x e=>by simp at e;omega
 · have r1a:=r1.below ka.touch.below r1.lt
   have r2a:=r2.below ka.touch.below r2.lt
   have lowa:=bOn low ka
   have g1a:=g1.on ka.touch.below
   have g2a:=g2.on ka.touch.below
   have km:=Many.two r1a r2a (by omega)
   have lowK:∀ {W' rs},Many wa [bc,bw] rs W'→Below w.heap.size w W':=fun k=>Kept.low lowa (Kept.of_touch k.touch) lowa.size fun x e=>by simp at e;omega
   have g1K:∀ {W' rs},Many wa [bc,bw] rs W'→GotIn W' W'.heap.size (.slice A1 d.got.length cap1) d.got:=fun k=>g1a.stay (Kept.of_touch k.touch) fun hne x e h=>by
    have:=f1 hne x e
    simp at h
    omega
   have g2K:∀ {W' rs},Many wa [bc,bw] rs W'→GotIn W' W'.heap.size (.slice A2 d.got.length cap2) d.got:=fun k=>g2a.stay (Kept.of_touch k.touch) fun hne x e h=>by
    have:=f2 hne x e
    simp at h
    omega
   exact qP 3 km fun wb kb=>qD 0 [0] kb<|qD 1 [2] kb<|qDc 1 (Zt d A1 d.got.length cap1 wb) kb fun wc kc=>poE<|qC (QBZ d hdo.got _ _ wc (g1K kc) (g2K kc)) kc fun wd kd=>qE [] kd fun we ke=>JF<|Jj (.bool true) ⟨rfl,lowK ke⟩
end Go.Proofs.YtkenebbjodcbcaaGreatDoor
