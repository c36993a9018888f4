/- Contracts and facts that the claim's proof wants (several texts in one). -/
import Derived.Test.YtkenebbjodcbcaaGreatDoorCoH27
namespace Go.Proofs.YtkenebbjodcbcaaGreatDoor
open Go.RowKit
set_option linter.unusedVariables false
set_option linter.unusedSimpArgs false
set_option maxRecDepth 20000
set_option maxHeartbeats 20000000
def finB (h:Nat)(x:js):List Value:=[x.y 0,x.y 1,pT h 0,pT (h+1) 0,pT (h+2) 0,x.y 5,x.y 6,x.y 7,x.y 8,x.y 9,x.y 10,x.y 11,x.y 12,x.y 13,x.y 14,x.y 15,x.y 16,x.y 17,x.y 18,x.y 19,x.y 20,x.y 21,x.y 22,x.y 23,x.y 24,x.y 25,x.y 26,x.y 27,x.y 28,x.y 29,x.y 30,x.y 31,x.y 32,x.y 33,x.y 34,x.y 35,x.y 36,x.y 37,x.y 38,x.y 39,x.y 40,x.y 41,x.y 42,x.y 43]
theorem QJD (hA:jJ)(c:CoT)(hc:OkC c)(l:LnT)(v:Value)(bs:Nat)(hlen:c.got.length≤100000)(w0 w:World)(hB0:Below w0.heap.size w0 w)(hb0:w0.heap.size≤bs)(hbs:bs≤w.heap.size)(ht:Tabs w0 w0.heap.size)(hown:w.ownsRow bs 5 1 v c.got.length (bvs c.got)) :
 Calls Tryz.prog 35 #[coV c v,lnV l] w fun e w'=>∃ v',e=.returned (coV (c.fin l) v')∧w'.ownsRow bs 5 1 v' (c.fin l).got.length (bvs (c.fin l).got)∧Kept (fun x=>v.ownBlock=some x) w w':=by
 obtain⟨A,cap,rfl,-,-,-⟩:=Zx hown
 have vlt:=hown.lt
 obtain⟨ys,hys⟩:∃ ys,ys=c.got++[c.b]:=⟨_,rfl⟩
 have hyl:ys.length=c.got.length+1:=by rw[hys];simp
 have hy8:Bytes8 ys:=by rw[hys];exact QGh hc.got hc.b
 obtain⟨T,hT⟩:∃ T,T=Jr c.r c.wh ys:=⟨_,rfl⟩
 have hTg:T.b=true→RgB T.g:=by rw[hT];exact (hA c.r c.wh ys hc.r hy8).1
 obtain⟨D,hD⟩:∃ D,D=c.fin1 l.irq:=⟨_,rfl⟩
 have eD:D=if T.b then ({ c with got:=ys,b:=0 }:CoT).choose T.g l.irq else { c with got:=ys,b:=0,a:=at0 T.c }:=by rw[hD,hT,hys];rfl
 have eF:c.fin l={ D with off:=l.bus&&D.leaves }:=by rw[hD];rfl
 rw[eF]
 go_enter Tryz.func35,Tryz.ntmps35
 refine JB<|qQ [] (Many.begin w) fun w1 k1=>coR<|qR 5 [0,0] k1 fun w2 k2=>?_
 have hb2:=k2.touch.below
 have rb:=k2.row 3 (b:=w1.heap.size) (t:=5) [.int .u8 c.b] (by kernel_rfl)
 have r0:Row w2 w.heap.size 33 (coC c (.slice A c.got.length cap)):=k2.row 0 (coC c (.slice A c.got.length cap)).toList (by kernel_rfl)
 have r1:Row w2 (w.heap.size+1) 40 (lnC l):=k2.row 1 (lnC l).toList (by kernel_rfl)
 have r2:Row w2 (w.heap.size+2) 33 (coC zeroCo (.slice none 0 0)):=k2.row 2 (coC zeroCo (.slice none 0 0)).toList (by kernel_rfl)
 have l2:=r2.lt
 refine qOwn (.tmp 9) (.tmp 12) 26 5 1 1 (.int .u8 0) bs _ c.got.length (bvs c.got) ⟨w1.heap.size,0,none⟩ 1 1 [.int .u8 c.b] (by have:=hb2.size;omega) (own_below hown hb2) rfl (fun j u hu=>rb.values j u hu) (fun u hu=>by rw[List.mem_singleton.1 hu];rfl) (by omega) (by omega) fun v' w3 own3 gr hnew=>?_
 have q3:=Kept.of_grown gr
 have q03:Kept (fun x=>(Value.slice A c.got.length cap).ownBlock=some x) w w3:=(Kept.of_below (S:=fun _=>False) hb2).trans q3 (fun _ e=>e.elim) fun _ _ e=>e
 have e3:bvs c.got++[.int .u8 c.b]=bvs ys:=by rw[hys,←QBT];rfl
 rw[e3,←hyl] at own3
 have vlt':∀ x,v'.ownBlock=some x→x < w.heap.size∨w.heap.size+2 < x:=fun x e=>by
  rcases hnew with h|⟨b,h,h2⟩
  · rw[h] at e;exact .inl (vlt x e).2
  · rw[h] at e;injection e with e;subst e;exact .inr (by omega)
 obtain⟨A',cap',rfl,hcap',-,-⟩:=Zx own3
 have km:=Many.three (q3.row r0 fun e=>by have:=vlt _ e;omega) (q3.row r1 fun e=>by have:=vlt _ e;omega) (q3.row r2 fun e=>by have:=vlt _ e;omega) (by omega) (by omega) (by omega)
 have low3:Below w0.heap.size w0 w3:=Kept.low hB0 q03 (by omega) fun x e=>by have:=vlt x e;omega
 have s3:=q03.size
 clear k1 k2 rb r0 r1 r2 q3 gr hnew
 have KN:=fun (W:World) (h:BytesIn W W.heap.size A' ys) (h2:Tabs W W.heap.size)=>QEZ c.r hc.r c.wh A' cap' ys hcap' hy8 (by omega) W h h2
 rw[←hT] at KN
 refine qE [0] km fun w4 k4=>qQ [0] k4 fun w5 k5=>coR<|qR 6 [0,0,0] k5 fun w6 k6=>?_
 have hrow:∀ x,(Value.slice A' ys.length cap').ownBlock=some x→¬x∈[w.heap.size,w.heap.size+1,w.heap.size+2]:=fun x e h=>by
  have:=vlt' x e
  simp at h
  omega
 have low6:Below w0.heap.size w0 w6:=Kept.low low3 (Kept.of_touch k6.touch) low3.size fun x e=>by simp at e;omega
 have own6:=Kept.own (Kept.of_touch k6.touch) own3 hrow
 refine qC (KN w6 (jP own6) (ht.below low6)) k6 fun w7 k7=>qE [3,4] k7 fun w8 k8=>?_
 refine QBJ (finB w.heap.size) (fun _ W=>∃ A'' cap'',Many w3 [w.heap.size,w.heap.size+1,w.heap.size+2] [⟨w.heap.size,33,(coC D (.slice A'' D.got.length cap'')).toList.map some⟩,⟨w.heap.size+1,40,(lnC l).toList.map some⟩,⟨w.heap.size+2,33,(coC zeroCo (.slice none 0 0)).toList.map some⟩] W∧W.ownsRow bs 5 1 (.slice A'' D.got.length cap'') D.got.length (bvs D.got)∧∀ x,(Value.slice A'' D.got.length cap'').ownBlock=some x→x < w.heap.size∨w.heap.size+2 < x) ?_ ?_
 · have ht8:Tabs w8 w8.heap.size:=ht.below (Kept.low low3 (Kept.of_touch k8.touch) low3.size fun x e=>by simp at e;omega)
   refine qQ [] k8 fun w9 k9=>coI T.b (fun hb=>?_) fun hb=>?_
   · rw[hb,if_pos rfl] at eD
     have KC:=fun (W:World) (h:Tabs W W.heap.size)=>QIk { c with got:=ys,b:=0 } A' ys.length cap' T.g (hTg hb) l.irq W h
     rw[←eD] at KC
     have hgot:D.got=[]:=by rw[eD];rfl
     have low:∀ {W rs},Many w3 [w.heap.size,w.heap.size+1,w.heap.size+2] rs W→Tabs W W.heap.size:=fun k=>ht.below (Kept.low low3 (Kept.of_touch k.touch) low3.size fun x e=>by simp at e;omega)
     refine coZ<|qR 4 [0,4,1] k9 fun wa ka=>qC (KC wa (low ka)) ka fun wb kb=>qF [0] kb fun wc kc=>XD (fun y=>⟨y⟩) ⟨none,0,?_⟩
     rw[hgot]
     exact⟨kc.take 3 _,World.ownsRow_nil ..,fun x e=>by cases e⟩
   · rw[hb,if_neg (by simp)] at eD
     refine coZ<|qR 1 [3] k9 fun wa ka=>qC (QEJ T.c wa) ka fun wb kb=>qF [0] kb fun wc kc=>XD (fun y=>⟨y⟩) ⟨A',cap',?_⟩
     rw[eD]
     exact⟨kc.take 3 _,Kept.own (Kept.of_touch kc.touch) own3 hrow,vlt'⟩
 clear k4 k5 k6 k7 k8 low6 own6 km
 rintro ⟨y⟩ w9 ⟨A'',cap'',k9,own9,vl9⟩
 have q09:Kept (fun x=>(Value.slice A c.got.length cap).ownBlock=some x) w w9:=q03.trans (Kept.of_touch k9.touch) (fun _ e=>e) fun x hx e=>by simp at e;omega
 have fin:∀ {W rs},Many w9 [w.heap.size,w.heap.size+1,w.heap.size+2] rs W→W.ownsRow bs 5 1 (.slice A'' D.got.length cap'') D.got.length (bvs D.got)∧Kept (fun x=>(Value.slice A c.got.length cap).ownBlock=some x) w W:=fun kk =>
  ⟨Kept.own (Kept.of_touch kk.touch) own9 fun x e h=>by
   have:=vl9 x e
   simp at h
   omega,q09.trans (Kept.of_touch kk.touch) (fun _ e=>e) fun x hx e=>by simp at e;omega⟩
 obtain⟨wait,bus,irq,ln,rs⟩:=l
 have kk9:=k9.anewK (Kept.refl (fun _=>False) w9) [w.heap.size,w.heap.size+1,w.heap.size+2] (fun _ _ h=>h)
 cases bus with
 | false =>
   exact qQ [1,0] kk9 fun wa ka=>qQ [0,2] ka fun wb kb=>JF<|Zk (kb.row 2 (b:=w.heap.size+2) (t:=33) (coC { D with off:=false } (.slice A'' D.got.length cap'')).toList (by kernel_rfl)) ⟨_,rfl,fin kb⟩
 | true =>
   have KM:=fun W=>QB7 D A'' D.got.length cap'' W
   obtain⟨b,hb⟩:∃ b,b=D.leaves:=⟨_,rfl⟩
   rw[←hb] at KM ⊢
   exact coR<|qR 4 [1,0] kk9 fun wa ka=>qC (KM wa) ka fun wb kb=>qE [0] kb fun wc kc=>qQ [0,2] kc fun wd kd=>JF<|Zk (kd.row 2 (b:=w.heap.size+2) (t:=33) (coC { D with off:=b } (.slice A'' D.got.length cap'')).toList (by kernel_rfl)) ⟨_,rfl,fin kd⟩
theorem Many.storeS {w0 w:World} {L:List Nat} {rs:List RowK}(h:Many w0 L rs w)(i:Nat){b:Nat} {t:TypeId}(v x:Value)(e:rs[i]? = some ⟨b,t,[some v]⟩):Many w0 L (rs.set i ⟨b,t,[some x]⟩) (w.setCells b 0 [x]):=by
 have r:=(h.row i [v] e).setAll (vs:=#[x]) rfl
 exact h.turn e r (QAj #[x]) (QJW b [x] 0 (Besides.refl b b w))
def QTW (c:CoT)(w:World)(e:Ending)(w':World):Prop:=∃ v,e=.returned (coV c v)∧GotIn w' w'.heap.size v c.got∧(∀ x,v.ownBlock=some x→w.heap.size≤x)∧Below w.heap.size w w'
theorem jl (hA:jJ)(c:CoT)(hc:OkC c)(l:LnT)(b:Int)(hb8:B8 b)(v:Value)(hlen:c.got.length≤100000)(w:World)(hin:GotIn w w.heap.size v c.got)(ht:Tabs w w.heap.size)(hS:Samps w) :
 Calls Tryz.prog 21 #[coV c v,lnV l,.int .u8 b] w (QTW (Xr c l b) w):=by
 obtain⟨A,cap,rfl,hcap,hby,hnil⟩:=hin
 obtain⟨D,hD⟩:∃ D,D=Xr c l b:=⟨_,rfl⟩
 rw[←hD]
 go_enter Tryz.func21,Tryz.ntmps21
 refine JB<|qQ [] (Many.begin w) fun w1 k1=>coR<|qR 2 [0] k1 fun w2 k2=>kX (QIr A cap c.got (by omega) w2 ((hby.below k2.touch.below).more k2.touch.size)) fun e w3 ⟨v',he,own,hb⟩=>⟨_,he,?_⟩
 obtain⟨A',cap',rfl,hcap',-,hn'⟩:=Zx own
 have k3:=k2.below hb
 have r0:Row w3 w.heap.size 33 (coC c (.slice A c.got.length cap)):=k3.row 0 (coC c (.slice A c.got.length cap)).toList (by kernel_rfl)
 have r1:Row w3 (w.heap.size+1) 40 (lnC l):=k3.row 1 (lnC l).toList (by kernel_rfl)
 have r2:Row w3 (w.heap.size+2) 33 (coC zeroCo (.slice none 0 0)):=k3.row 2 (coC zeroCo (.slice none 0 0)).toList (by kernel_rfl)
 have hlt2:w.heap.size+2 < w2.heap.size:=k2.lt 2 ⟨w.heap.size+2,33,(coC zeroCo (.slice none 0 0)).toList.map some⟩ (by kernel_rfl)
 have low3:Below w.heap.size w w3:=k3.touch.below
 have km:=Many.three r0 r1 r2 (by omega) (by omega) (by omega)
 obtain⟨bs,hbs⟩:∃ bs,bs=w2.heap.size:=⟨_,rfl⟩
 rw[←hbs] at own hlt2
 have sb3:bs≤w3.heap.size:=by rw[hbs];exact hb.size
 clear k1 k2 k3 r0 r1 r2 hb
 have low:∀ {W rs},Many w3 [w.heap.size,w.heap.size+1,w.heap.size+2] rs W→Below w.heap.size w W:=fun k=>Kept.low low3 (Kept.of_touch k.touch) low3.size fun x e=>by simp at e;omega
 have ownA:∀ {W rs},Many w3 [w.heap.size,w.heap.size+1,w.heap.size+2] rs W→W.ownsRow bs 5 1 (.slice A' c.got.length cap') c.got.length (bvs c.got):=fun k=>Kept.own (Kept.of_touch k.touch) own fun x e h=>by
  have:=own.lt x e
  simp at h
  omega
 have KH:=fun (W:World) (h:Samps W)=>QAF c A' c.got.length cap' l W h
 refine qE [0] km fun w4 k4=>coS<|coR<|qR 2 [0,1] k4 fun w5 k5=>qC (KH w5 (hS.below (low k5))) k5 fun w6 k6=>qE [] k6 fun w7 k7=>coB<|?_
 clear k4 k5 k6
 have QM:∀ {W rs} (d:CoT),Many w3 [w.heap.size,w.heap.size+1,w.heap.size+2] rs W→d.got=[]→GotIn W W.heap.size (.slice none 0 0) d.got∧(∀ x,(Value.slice none 0 0).ownBlock=some x→w.heap.size≤x)∧Below w.heap.size w W:=fun d k e=>⟨by rw[e];exact QB1 _ _,fun x e=>(by cases e),low k⟩
 have outA:∀ {W rs} (d:CoT),Many w3 [w.heap.size,w.heap.size+1,w.heap.size+2] rs W→d.got=c.got→GotIn W W.heap.size (.slice A' c.got.length cap') d.got∧(∀ x,(Value.slice A' c.got.length cap').ownBlock=some x→w.heap.size≤x)∧Below w.heap.size w W:=fun d k e=>⟨by rw[e];exact⟨A',cap',rfl,hcap',jP (ownA k),hn'⟩,fun x e=>by have:=own.lt x e;omega,low k⟩
 cases hr:l.reset with
 | true =>
   rw[show evM c l=evR from if_pos hr] at k7 ⊢
   rw[QEb hr] at hD
   obtain⟨F,hF⟩:∃ F,F=QBc (jt c.r):=⟨_,rfl⟩
   have KN:=fun (W:World) (h:Tabs W W.heap.size)=>QBm (jt c.r) (QG5 hc.r) W h
   rw[←hF] at KN hD
   have hg:D.got=[]:=by rw[hD,hF];rfl
   exact qQ [] k7 fun w8 k8=>coT<|qQ [3] k8 fun w9 k9=>coR<|qR 2 [0] k9 fun wa ka=>qC (QIX c.r wa) ka fun wb kb=>qC (KN wb (ht.below (low kb))) kb fun wc kc=>qE [0] kc fun wd kd=>coZ<|qF [1,0] kd fun we ke=>eoB<|eoT<|qQ [0,2] ke fun wf kf=>JF<|Zk (kf.row 2 (b:=w.heap.size+2) (t:=33) (coC D (.slice none 0 0)).toList (by rw[hD];kernel_rfl)) ⟨_,rfl,QM D kf hg⟩
 | false =>
   cases ho:c.off with
   | true =>
     rw[show evM c l=evA l.bus from (if_neg (by rw[hr];simp)).trans (if_pos ho)] at k7 ⊢
     rw[QBD hr ho] at hD
     have KN:=fun W=>QGL c A' c.got.length cap' l.nmi W
     obtain⟨F,hF⟩:∃ F,F=c.note l.nmi:=⟨_,rfl⟩
     rw[←hF] at KN hD
     have hg:D.got=c.got:=by rw[hD,hF];rfl
     obtain⟨bb,hbb⟩:∃ bb,bb=l.bus:=⟨_,rfl⟩
     rw[←hbb] at k7 hD ⊢
     cases bb with
     | true =>
       refine qQ [] k7 fun w8 k8=>coF<|qQ [] k8 fun w8 k8=>coT<|coR<|qR 1 [] k8 fun wx kx=>?_
       have rx:=kx.row 3 (b:=w8.heap.size) (t:=80) [.bool false] (by kernel_rfl)
       have ky:=(kx.take 4 [⟨w.heap.size,33,(coC c (.slice A' c.got.length cap')).toList.map some⟩,⟨w.heap.size+1,40,(lnC l).toList.map some⟩,⟨w.heap.size+2,33,(coC zeroCo (.slice none 0 0)).toList.map some⟩,⟨w8.heap.size,80,[some (.bool false)]⟩]).storeS 3 (.bool false) (.bool false) rfl
       refine wD (QFA (run_storeAt_mid wx w8.heap.size 0 80 #[.bool false] rx.there (by kernel_rfl) (by simp[Value.oneCell']))) ?_
       generalize wx.setCells w8.heap.size 0 [.bool false]=wy at ky ⊢
       exact qE [] ky fun w9 k9=>coR<|qR 3 [0,1] k9 fun wa ka=>qC (KN wa) ka fun wb kb=>qE [0] kb fun wc kc=>coZ<|qF [3,0] kc fun wd kd=>eoB<|eoT<|qQ [0,2] kd fun wf kf=>JF<|Zk (kf.row 2 (b:=w.heap.size+2) (t:=33) (coC { F with off:=true } (.slice A' c.got.length cap')).toList (by kernel_rfl)) ⟨.slice A' c.got.length cap',by rw[hD],outA D kf hg⟩
     | false =>
       refine qQ [] k7 fun w8 k8=>coF<|qQ [] k8 fun w8 k8=>coT<|coR<|qR 1 [] k8 fun wx kx=>?_
       have rx:=kx.row 3 (b:=w8.heap.size) (t:=80) [.bool false] (by kernel_rfl)
       have ky:=(kx.take 4 [⟨w.heap.size,33,(coC c (.slice A' c.got.length cap')).toList.map some⟩,⟨w.heap.size+1,40,(lnC l).toList.map some⟩,⟨w.heap.size+2,33,(coC zeroCo (.slice none 0 0)).toList.map some⟩,⟨w8.heap.size,80,[some (.bool false)]⟩]).storeS 3 (.bool false) (.bool true) rfl
       refine wD (QFA (run_storeAt_mid wx w8.heap.size 0 80 #[.bool true] rx.there (by kernel_rfl) (by simp[Value.oneCell']))) ?_
       generalize wx.setCells w8.heap.size 0 [.bool true]=wy at ky ⊢
       exact qE [] ky fun w9 k9=>coR<|qR 3 [0,1] k9 fun wa ka=>qC (KN wa) ka fun wb kb=>qE [0] kb fun wc kc=>coZ<|qF [3,0] kc fun wd kd=>eoB<|eoT<|qQ [0,2] kd fun wf kf=>JF<|Zk (kf.row 2 (b:=w.heap.size+2) (t:=33) (coC { F with off:=false } (.slice A' c.got.length cap')).toList (by kernel_rfl)) ⟨.slice A' c.got.length cap',by rw[hD],outA D kf hg⟩
   | false =>
     obtain⟨T,hT⟩:∃ T,T=QJ c.a l.wait:=⟨_,rfl⟩
     have e0:evM c l=if T.2.2=true then evL T.1 T.2.1 else evS T.1 T.2.1:=by rw[hT];exact (if_neg (by rw[hr];simp)).trans (if_neg (by rw[ho];simp))
     rw[e0] at k7 ⊢
     obtain⟨a,m,t⟩:=T
     have KN:=fun W=>QGL c A' c.got.length cap' l.nmi W
     obtain⟨F,hF⟩:∃ F,F=c.note l.nmi:=⟨_,rfl⟩
     rw[←hF] at KN
     have hFc:OkC F:=by rw[hF];exact⟨hc.r,hc.got,hc.b⟩
     have hFg:F.got=c.got:=by rw[hF];rfl
     have KP:=fun W=>QLm F A' c.got.length cap' a m b W
     obtain⟨G,hG⟩:∃ G,G=F.pass a m b:=⟨_,rfl⟩
     rw[←hG] at KP
     have hGc:OkC G:=by rw[hG];exact hFc.pass a m hb8
     have hGg:G.got=c.got:=by rw[hG];exact hFg
     cases t with
     | false =>
       rw[QB5 hr ho hT.symm rfl,←hF,←hG] at hD
       rw[hD]
       exact qQ [] k7 fun w8 k8=>coF<|qQ [] k8 fun w8 k8=>coF<|qQ [] k8 fun w8 k8=>coT<|qQ [3] k8 fun w9 k9=>qPz 6 k9 fun wa ka=>qD 0 [0] ka<|qD 1 [1,2] ka<|qD 3 [4] ka<|qM [5] ka<|qDc 3 (KN wa) ka fun wb kb=>poE<|qC (KP wb) kb fun wc kc=>qF [0] kc fun wd kd=>eoB<|eoT<|qQ [0,2] kd fun wf kf=>JF<|Zk (kf.row 2 (b:=w.heap.size+2) (t:=33) (coC G (.slice A' c.got.length cap')).toList (by kernel_rfl)) ⟨_,rfl,outA G kf hGg⟩
     | true =>
       rw[QBE hr ho hT.symm rfl,←hF,←hG] at hD
       refine qQ [] k7 fun w8 k8=>coF<|qQ [] k8 fun w8 k8=>coF<|qQ [] k8 fun w8 k8=>coF<|qQ [] k8 fun w8 k8=>coT<|qQ [3] k8 fun w9 k9=>qPz 9 k9 fun wa ka=>qD 0 [0] ka<|qD 1 [1,2] ka<|qD 3 [4,5] ka<|qM [6] ka<|qD 1 [8] ka<|qDc 3 (KN wa) ka fun wb kb=>qDc 7 (KP wb) kb fun wc kc=>poE<|?_
       have own6:=ownA kc
       have hl6:=low kc
       have own6':wc.ownsRow bs 5 1 (.slice A' c.got.length cap') G.got.length (bvs G.got):=by rw[hGg];exact own6
       have sc:=kc.touch.size
       refine kX (QJD hA G hGc l (.slice A' c.got.length cap') bs (by rw[hGg];omega) w wc hl6 (by omega) (by omega) ht own6') fun e wd ⟨v'',he,own7,q7⟩=>⟨_,he,?_⟩
       rw[←hD] at own7 he ⊢
       obtain⟨A'',cap'',rfl,hcap'',-,hn''⟩:=Zx own7
       have hne:∀ x,(Value.slice A' c.got.length cap').ownBlock=some x→w.heap.size+2 < x:=fun x e=>by have:=own6.lt x e;omega
       have r0:=q7.row (kc.row 0 (b:=w.heap.size) (t:=33) (coC c (.slice A' c.got.length cap')).toList (by kernel_rfl)) fun e=>by have:=hne _ e;omega
       have r2:=q7.row (kc.row 2 (b:=w.heap.size+2) (t:=33) (coC zeroCo (.slice none 0 0)).toList (by kernel_rfl)) fun e=>by have:=hne _ e;omega
       have kd:=Many.two r0 r2 (by omega)
       refine qF [0] kd fun wf kf=>eoB<|eoT<|qQ [0,1] kf fun wg kg=>JF<|Zk (kg.row 1 (b:=w.heap.size+2) (t:=33) (coC D (.slice A'' D.got.length cap'')).toList (by kernel_rfl)) ⟨_,rfl,⟨A'',cap'',rfl,hcap'',jP (Kept.own (Kept.of_touch kg.touch) own7 fun x e h=>?_),hn''⟩,fun x e=>(by have:=own7.lt x e;omega),?_⟩
       · have:=own7.lt x e
         simp at h
         omega
       · have lowd:=Kept.low hl6 q7 hl6.size fun x e=>by have:=hne x e;omega
         exact Kept.low lowd (Kept.of_touch kg.touch) lowd.size fun x e=>by simp at e;omega
theorem QAs (c:CoT)(A:Option Addr)(n cap:Nat)(l:LnT)(w:World)(hS:Samps w):Calls Tryz.prog 12 #[coV c (.slice A n cap),lnV l] w fun e w'=>e=.returned (.tuple #[cyV (ju c l),.bool (Xh c l)])∧Below w.heap.size w w':=by
 have KH:=fun (W:World) (h:Samps W)=>QAF c A n cap l W h
 go_enter Tryz.func12,Tryz.ntmps12
 refine JB<|qQ [] (Many.begin w) fun w1 k1=>coS<|coR<|qR 2 [0,1] k1 fun w2 k2=>qC (KH w2 (hS.below k2.touch.below)) k2 fun w3 k3=>?_
 have no:Xh c l=false→.returned (.tuple #[cyV JL,.bool false])=Ending.returned (.tuple #[cyV (ju c l),.bool (Xh c l)]):=fun h=>by
  unfold ju
  rw[h]
  rfl
 cases hr:l.reset with
 | true =>
   rw[show evM c l=evR from if_pos hr] at ⊢
   have h0:Xh c l=false:=by unfold Xh;rw[hr];rfl
   exact qC (QQ0 w3) k3 fun w4 k4=>qE [] k4 fun w5 k5=>coF<|JC<|eoT<|qQ [2] k5 fun w6 k6=>JF<|QJO (k6.row 2 (b:=w.heap.size+2) (t:=29) (cyC JL).toList (by kernel_rfl)) ⟨no h0,k6.touch.below⟩
 | false =>
   cases ho:c.off with
   | true =>
     rw[show evM c l=evA l.bus from (if_neg (by rw[hr];simp)).trans (if_pos ho)] at ⊢
     have h0:Xh c l=false:=by unfold Xh;rw[hr,ho];rfl
     exact qC (QQV (!l.bus) w3) k3 fun w4 k4=>qE [] k4 fun w5 k5=>coF<|JC<|eoT<|qQ [2] k5 fun w6 k6=>JF<|QJO (k6.row 2 (b:=w.heap.size+2) (t:=29) (cyC JL).toList (by kernel_rfl)) ⟨no h0,k6.touch.below⟩
   | false =>
     have e0:evM c l=if (QJ c.a l.wait).2.2=true then evL (QJ c.a l.wait).1 (QJ c.a l.wait).2.1 else evS (QJ c.a l.wait).1 (QJ c.a l.wait).2.1:=(if_neg (by rw[hr];simp)).trans (if_neg (by rw[ho];simp))
     have hq:Xh c l=(QJ c.a l.wait).2.1:=by unfold Xh;rw[hr,ho];rfl
     rw[e0] at ⊢
     generalize QJ c.a l.wait=T at hq ⊢
     obtain⟨a,m,t⟩:=T
     dsimp only at hq ⊢
     cases m with
     | false=>cases t<;>exact qC (QLP a false w3) k3 fun w4 k4=>qE [] k4 fun w5 k5=>coF<|JC<|eoT<|qQ [2] k5 fun w6 k6=>JF<|QJO (k6.row 2 (b:=w.heap.size+2) (t:=29) (cyC JL).toList (by kernel_rfl)) ⟨no hq,k6.touch.below⟩
     | true =>
       have yes:.returned (.tuple #[cyV c.a.c,.bool true])=Ending.returned (.tuple #[cyV (ju c l),.bool (Xh c l)]):=by
        unfold ju
        rw[hq]
        rfl
       cases t<;>exact qC (QLP a true w3) k3 fun w4 k4=>qE [] k4 fun w5 k5=>coT<|qQ [0,2] k5 fun w6 k6=>JF<|Jp<|QJO (k6.row 2 (b:=w.heap.size+2) (t:=29) (cyC c.a.c).toList (by kernel_rfl)) ⟨yes,k6.touch.below⟩
theorem QF3 (hA:jJ)(c:CoT)(hc:OkC c)(l:LnT)(b:Int)(hb8:B8 b)(v:Value)(hlen:c.got.length≤100000)(w:World)(hin:GotIn w w.heap.size v c.got)(ht:Tabs w w.heap.size)(hS:Samps w) :
 Calls Tryz.prog 15 #[coV c v,lnV l,.int .u8 b] w fun e w'=>e=.returned (.bool (QF4 c l b))∧Below w.heap.size w w':=by
 obtain⟨A,cap,rfl,hcap,hby,hnil⟩:=hin
 have KH:=fun (W:World) (h:Samps W)=>QAF c A c.got.length cap l W h
 have KT:=fun (W:World) (h:Below w.heap.size w W)=>jl hA c hc l b hb8 (.slice A c.got.length cap) hlen W ⟨A,cap,rfl,hcap,(hby.below h).more h.size,hnil⟩ (ht.below h) (hS.below h)
 obtain⟨D,hD⟩:∃ D,D=Xr c l b:=⟨_,rfl⟩
 unfold QF4
 rw[←hD] at KT ⊢
 go_enter Tryz.func15,Tryz.ntmps15
 refine JB<|qQ [] (Many.begin w) fun w1 k1=>coR<|qR 2 [0,1] k1 fun w2 k2=>qC (KH w2 (hS.below k2.touch.below)) k2 fun w3 k3=>?_
 cases hr:l.reset with
 | true =>
   rw[show evM c l=evR from if_pos hr] at ⊢
   rw[show QC6 c l=false by unfold QC6;rw[hr];rfl]
   exact qE [2] k3 fun w4 k4=>qQ [] k4 fun w5 k5=>JF<|Jj (.bool false) ⟨rfl,k5.touch.below⟩
 | false =>
   cases ho:c.off with
   | true =>
     rw[show evM c l=evA l.bus from (if_neg (by rw[hr];simp)).trans (if_pos ho)] at ⊢
     rw[show QC6 c l=false by unfold QC6;rw[hr,ho];rfl]
     exact qE [2] k3 fun w4 k4=>qQ [] k4 fun w5 k5=>JF<|Jj (.bool false) ⟨rfl,k5.touch.below⟩
   | false =>
     have e0:evM c l=if (QJ c.a l.wait).2.2=true then evL (QJ c.a l.wait).1 (QJ c.a l.wait).2.1 else evS (QJ c.a l.wait).1 (QJ c.a l.wait).2.1:=(if_neg (by rw[hr];simp)).trans (if_neg (by rw[ho];simp))
     have hq:QC6 c l=(QJ c.a l.wait).2.2:=by unfold QC6;rw[hr,ho];rfl
     rw[e0] at ⊢
     generalize QJ c.a l.wait=T at hq ⊢
     obtain⟨a,m,t⟩:=T
     dsimp only at hq ⊢
     rw[hq]
     cases t with
     | false=>exact qE [2] k3 fun w4 k4=>qQ [] k4 fun w5 k5=>JF<|Jj (.bool false) ⟨rfl,k5.touch.below⟩
     | true =>
       refine qE [2] k3 fun w4 k4=>coR<|qR 5 [0,1] k4 fun w5 k5=>kX (KT w5 k5.touch.below) fun e w6 ⟨v,he,hgo,_,hb⟩=>⟨_,he,?_⟩
       obtain⟨A',cap',rfl,-,-⟩:=hgo
       exact qC (QB7 D A' D.got.length cap' w6) (k5.below hb) fun w7 k7=>qE [] k7 fun w8 k8=>JF<|Jj (.bool (true&&D.leaves)) ⟨rfl,k8.touch.below⟩
def lnN (v:Bool):LnT:=⟨false,false,false,v,false⟩
def Zr (g:Rg)(k:Int)(nmi was:Bool):CoT:=⟨g,0,[],⟨⟨1,g.pc,0,4⟩,k,0⟩,0,nmi,was,false⟩
def QLR (g:Rg)(was:Bool):Nat→CoT
 | 0=>⟨g,1,[],⟨⟨1,g.pc,0,4⟩,0,0⟩,0,false,was,false⟩
 | 1=>⟨g,1,[],⟨⟨1,g.pc,0,4⟩,1,0⟩,0,false,was,false⟩
 | 2=>⟨g,1,[],⟨⟨1,g.pc,0,4⟩,2,0⟩,0,false,was,false⟩
 | 3=>⟨g,1,[],⟨⟨1,g.pc,0,4⟩,3,0⟩,0,false,was,false⟩
 | 4=>⟨g,1,[0],⟨⟨7,0,0,1⟩,0,0⟩,0,false,was,false⟩
 | 5=>⟨g,1,[0,0],⟨⟨3,(g.sp-1)%65536,g.pc / 256,3⟩,0,0⟩,0,false,was,false⟩
 | 6=>⟨g,1,[0,0],⟨⟨3,(g.sp-1)%65536,g.pc / 256,3⟩,1,0⟩,0,false,was,false⟩
 | 7=>⟨g,1,[0,0],⟨⟨3,(g.sp-1)%65536,g.pc / 256,3⟩,2,0⟩,0,false,was,false⟩
 | 8=>⟨g,1,[0,0,0],⟨⟨3,(g.sp-2)%65536,g.pc%256,3⟩,0,0⟩,0,false,was,false⟩
 | 9=>⟨g,1,[0,0,0],⟨⟨3,(g.sp-2)%65536,g.pc%256,3⟩,1,0⟩,0,false,was,false⟩
 | _=>⟨g,1,[0,0,0],⟨⟨3,(g.sp-2)%65536,g.pc%256,3⟩,2,0⟩,0,false,was,false⟩
theorem QOT (pc:Int)(k:Nat)(hk:k < 4):QJ ⟨⟨1,pc,0,4⟩,(k:Nat),0⟩ false=(⟨⟨1,pc,0,4⟩,((k+1:Nat):Int),0⟩,decide (k=2),decide (k=3)):=by
 rcases (show k=0∨k=1∨k=2∨k=3 by omega) with rfl|rfl|rfl|rfl<;>rfl
theorem QIH (g:Rg)(k:Int)(nmi was v:Bool):(Zr g k nmi was).note v=Zr g k (nmi||(v&&!was)) v:=rfl
theorem QJE (g:Rg)(k k':Int)(nmi was m:Bool):(Zr g k nmi was).pass ⟨⟨1,g.pc,0,4⟩,k',0⟩ m 0=Zr g k' nmi was:=by
 cases m<;>rfl
theorem QSF (g:Rg){k:Nat}(hk:k < 3)(nmi was v:Bool):Xr (Zr g (k:Nat) nmi was) (lnN v) 0=Zr g ((k+1:Nat):Int) (nmi||(v&&!was)) v:=by
 rw[QB5 rfl rfl (QOT g.pc k (by omega)) (decide_eq_false (by omega)),QIH,QJE]
 rfl
theorem QQO {g:Rg}(h:g.halted=false)(k:Int)(nmi was v:Bool):(Zr g k nmi was).fin (lnN v)=if nmi=true then QLR (QBF g) was 0 else Zr (QBF g) 0 false was:=by
 have e:({ Zr g k nmi was with got:=(Zr g k nmi was).got++[(Zr g k nmi was).b],b:=0 }:CoT).go1 (Jr g 0 [0]) false=if nmi=true then QLR (QBF g) was 0 else Zr (QBF g) 0 false was:=by
  rw[QQQ h]
  cases nmi with
  | true=>rfl
  | false =>
    show ({ (⟨g,0,[0],⟨⟨1,g.pc,0,4⟩,k,0⟩,0,false,was,false⟩:CoT) with nmi:=false }.start (QBF g) 0)=Zr (QBF g) 0 false was
    unfold CoT.start
    rw[QCL]
    rfl
 have e2:(Zr g k nmi was).fin1 false=if nmi=true then QLR (QBF g) was 0 else Zr (QBF g) 0 false was:=e
 unfold CoT.fin
 rw[show (lnN v).irq=false from rfl,e2]
 cases nmi<;>rfl
theorem QQo {g:Rg}(h:g.halted=false)(nmi was v:Bool):Xr (Zr g 3 nmi was) (lnN v) 0=if (nmi||(v&&!was))=true then QLR (QBF g) v 0 else Zr (QBF g) 0 false v:=by
 rw[QBE rfl rfl (QOT g.pc 3 (by omega)) rfl,QIH,QJE,QQO h]
 rfl
def awC (i:Nat):CoT:=if i < 4 then Zr Ja (i:Nat) false false else Zr (QBF Ja) 0 false false
theorem QGj (i:Nat):(awC i).got=[]:=by unfold awC;split<;>rfl
theorem QQ7:QBc Ja=awC 0:=by
 unfold QBc CoT.start
 rw[QCL]
 rfl
theorem QOE {i:Nat}(h:i < 4):Xr (awC i) Qr 0=awC (i+1):=by
 unfold awC
 rw[if_pos h]
 by_cases h3:i < 3
 · rw[if_pos (by omega)]
   exact QSF Ja h3 false false false
 · obtain rfl:i=3:=by omega
   exact QQo (g:=Ja) rfl false false false
theorem QSf (i:Nat):OkC (awC i):=by
 refine⟨?_,by rw[QGj];exact QHi,?_⟩
 · unfold awC
   split
   · exact QI8
   · show RgB (QBF Ja)
     constructor<;>first|exact⟨by decide,by decide⟩|decide
 · unfold awC;split<;>exact B8.zero
structure AwX where
 i:Nat
 A:Option Addr
 cap:Nat
 y:Nat→Value
def QTX (b1 b2:Nat)(x:AwX):List Value:=[x.y 0,pT b1 0,pT b2 0,.bool false,.int .i64 (x.i:Int),x.y 5,x.y 6,x.y 7,x.y 8,x.y 9,x.y 10,x.y 11,x.y 12,x.y 13,x.y 14,x.y 15,x.y 16,x.y 17,x.y 18,x.y 19,x.y 20,x.y 21,x.y 22,x.y 23,x.y 24,x.y 25,x.y 26,x.y 27,x.y 28,x.y 29,x.y 30,x.y 31,x.y 32,x.y 33,x.y 34,x.y 35,x.y 36,x.y 37,x.y 38,x.y 39,x.y 40,x.y 41,x.y 42,x.y 43]
structure AwI (w:World)(b1 b2:Nat)(x:AwX)(W:World):Prop where
 le:x.i≤4
 r1:Row W b1 33 (coC (awC x.i) (.slice x.A 0 x.cap))
 r2:Row W b2 29 (cyC JL)
 hn:x.A=none→x.cap=0
 low:Below w.heap.size w W
theorem QS2 (w:World):(binOp .eql 29 (cyV JL) (cyV JL)).run Tryz.prog w=.ok (.bool true) w:=by kernel_rfl
def cyF:Cy:=⟨1,1,0,4⟩
theorem QSz (w:World):(binOp .eql 29 (cyV cyF) (cyV cyF)).run Tryz.prog w=.ok (.bool true) w:=by kernel_rfl
theorem QAE (hA:jJ)(w:World)(ht:Tabs w w.heap.size)(hS:Samps w):Calls Tryz.prog 9 #[] w fun e w'=>e=.returned (.bool true)∧Below w.heap.size w w':=by
 have KN:=fun (W:World) (h:Tabs W W.heap.size)=>QBm Ja QI8 W h
 rw[QQ7] at KN
 have KA:=fun (W:World) (h:Samps W)=>QAs (awC 0) none 0 0 Qr W h
 rw[show ju (awC 0) Qr=JL from rfl,show Xh (awC 0) Qr=false from rfl] at KA
 go_enter Tryz.func9,Tryz.ntmps9
 refine JB<|qQ [] (Many.begin w) fun w1 k1=>coR<|qR 1 [] k1 fun w2 k2=>qC (KN w2 (ht.below k2.touch.below)) k2 fun w3 k3=>qE [0] k3 fun w4 k4=>coR<|qR 2 [0] k4 fun w5 k5=>qC (KA w5 (hS.below k5.touch.below)) k5 fun w6 k6=>qE [1] k6 fun w7 k7=>coS<|qQ [] k7 fun w8 k8=>coB<|?_
 have r1:Row w8 w3.heap.size 33 (coC (awC 0) (.slice none 0 0)):=k8.row 0 (coC (awC 0) (.slice none 0 0)).toList (by kernel_rfl)
 have r2:Row w8 w6.heap.size 29 (cyC JL):=k8.row 1 (cyC JL).toList (by kernel_rfl)
 have hb1:w.heap.size≤w3.heap.size:=k3.touch.size
 have hb2:w3.heap.size < w6.heap.size:=k6.lt 0 ⟨w3.heap.size,33,(coC (awC 0) (.slice none 0 0)).toList.map some⟩ (by kernel_rfl)
 have low8:=k8.touch.below
 refine QHB (QTX w3.heap.size w6.heap.size) (AwI w w3.heap.size w6.heap.size) (fun x=>5-x.i) (fun y=>⟨0,none,0,y⟩) ⟨Nat.zero_le _,r1,r2,fun _=>rfl,low8⟩ ?_
 clear k1 k2 k3 k4 k5 k6 k7 k8 r1 r2 low8
 generalize w3.heap.size=b1 at *
 generalize w6.heap.size=b2 at *
 rintro ⟨i,A,cap,y⟩ W ⟨hi,r1,r2,hn,low⟩
 dsimp only at hi r1 r2 hn low
 refine coS<|qQ [] (Many.begin W) fun wa ka=>coI (decide ((i:Int) < 4)) (fun hlt=>JC<|eoT<|coS<|coB<|?_) fun hge=>coX<|QMP<|QMP<|QR3<|eoT ?_
 · have hi4:i < 4:=by
    have:(i:Int) < 4:=by simpa using hlt
    omega
   have r1a:=r1.below ka.touch.below r1.lt
   have r2a:=r2.below ka.touch.below r2.lt
   have lowa:=bOn low ka
   obtain⟨c,hc⟩:∃ c,c=awC i:=⟨_,rfl⟩
   obtain⟨d,hd⟩:∃ d,d=awC (i+1):=⟨_,rfl⟩
   have hgc:c.got=[]:=by rw[hc];exact QGj i
   have hgd:d.got=[]:=by rw[hd];exact QGj _
   rw[←hc] at r1a
   have KT:=fun (W:World) (h:Tabs W W.heap.size) (h2:Samps W)=>jl hA c (by rw[hc];exact QSf i) Qr 0 B8.zero (.slice A 0 cap) (by rw[hgc];exact Nat.zero_le _) W ⟨A,cap,by rw[hgc];rfl,by rw[hgc];exact Nat.zero_le _,by rw[hgc];exact BytesIn.nil _ _ _,hn⟩ h h2
   rw[show Xr c Qr 0=d by rw[hc,hd];exact QOE hi4] at KT
   refine coZ<|qR 2 [0] (Many.two r1a r2a (by omega)) fun wb kb=>?_
   have lowb:Below w.heap.size w wb:=Kept.low lowa (Kept.of_touch kb.touch) lowa.size fun x e=>by simp at e;omega
   refine kX (KT wb (ht.below lowb) (hS.below lowb)) fun e wc ⟨v',he,hgo,_,hb⟩=>⟨_,he,?_⟩
   obtain⟨A',cap',rfl,-,-,hn'⟩:=hgo
   rw[hgd]
   refine qF [0] (kb.below hb) fun wd kd=>eoB<|eoT<|coZ<|qR 1 [] kd fun we ke=>wM (QDX i (by omega))<|qF [] ke fun wf kf=>j6 (fun y=>⟨i+1,A',cap',y⟩) ⟨by show i+1≤4;omega,?_,kf.row 1 (cyC JL).toList (by kernel_rfl),hn',?_⟩ (by show 5-(i+1) < 5-i;omega)
   · rw[←hd]
     exact kf.row 0 (coC d (.slice A' 0 cap')).toList (by kernel_rfl)
   · exact Kept.low lowa (Kept.of_touch kf.touch) lowa.size fun x e=>by simp at e;omega
 · obtain rfl:i=4:=by
    have:¬(i:Int) < 4:=by simpa using hge
    omega
   have e4:awC 4=Zr (QBF Ja) 0 false false:=rfl
   have r1a:=r1.below ka.touch.below r1.lt
   have r2a:=r2.below ka.touch.below r2.lt
   have lowa:=bOn low ka
   have KF:=fun W=>QBS (awC 4) A cap W
   rw[show XG (awC 4)=true from rfl] at KF
   refine coR<|qR 3 [0] (Many.two r1a r2a (by omega)) fun wb kb=>kBj 23 (JH (QBF Ja)) (JH (QBF Ja)) (.bool true) (QBQ _ _ _ _ _) (QD2 _)<|qR 2 [0] kb fun wc kc=>qC (KF wc) kc fun wd kd=>qR 8 [1] kd fun we ke=>kBj 35 (cyV JL) (cyV JL) (.bool true) (QCI _ _ _ _ _) QS2<|qR 6 [0] ke fun wf kf=>kBj 42 (cyV cyF) (cyV cyF) (.bool true) (QCI _ _ _ _ _) QSz<|qE [] kf fun wg kg=>JF<|Jj (.bool true) ⟨rfl,Kept.low lowa (Kept.of_touch kg.touch) lowa.size fun x e=>by simp at e;omega⟩
theorem QCD (k:Int)(W:World):Calls Tryz.prog 44 #[.int .i64 k] W fun e W'=>e=.returned (.int .i64 (Jh k:Nat))∧Below W.heap.size W W':=by
 go_enter Tryz.func44,Tryz.ntmps44
 by_cases h1:k=1
 · subst h1
   exact JB<|qQ [] (Many.begin W) fun w1 k1=>coS<|qQ [] k1 fun w2 k2=>coB<|coS<|qQ [] k2 fun w3 k3=>coT<|JC<|eoT<|coT<|qQ [] k3 fun w4 k4=>JF<|Z3<|Jp<|Jj (.int .i64 2) ⟨rfl,k4.touch.below⟩
 by_cases h2:k=2
 · subst h2
   exact JB<|qQ [] (Many.begin W) fun w1 k1=>coS<|qQ [] k1 fun w2 k2=>coB<|coS<|qQ [] k2 fun w3 k3=>coF<|qQ [] k3 fun w4 k4=>coT<|JC<|eoT<|coT<|qQ [] k4 fun w5 k5=>JF<|Z3<|Jp<|Jj (.int .i64 2) ⟨rfl,k5.touch.below⟩
 by_cases h3:k=3
 · subst h3
   exact JB<|qQ [] (Many.begin W) fun w1 k1=>coS<|qQ [] k1 fun w2 k2=>coB<|coS<|qQ [] k2 fun w3 k3=>coF<|qQ [] k3 fun w4 k4=>coF<|coZ<|qF [] k4 fun w5 k5=>eoT<|coT<|qQ [] k5 fun w6 k6=>JF<|Z3<|Jp<|Jj (.int .i64 2) ⟨rfl,k6.touch.below⟩
 by_cases h4:k=4
 · subst h4
   exact JB<|qQ [] (Many.begin W) fun w1 k1=>coS<|qQ [] k1 fun w2 k2=>coB<|coS<|qQ [] k2 fun w3 k3=>coF<|qQ [] k3 fun w4 k4=>coF<|coZ<|qF [] k4 fun w5 k5=>eoT<|coF<|coS<|qQ [] k5 fun w6 k6=>coT<|JC<|eoT<|coT<|qQ [] k6 fun w7 k7=>JF<|Z3<|Jp<|Jj (.int .i64 3) ⟨rfl,k7.touch.below⟩
 by_cases h5:k=5
 · subst h5
   exact JB<|qQ [] (Many.begin W) fun w1 k1=>coS<|qQ [] k1 fun w2 k2=>coB<|coS<|qQ [] k2 fun w3 k3=>coF<|qQ [] k3 fun w4 k4=>coF<|coZ<|qF [] k4 fun w5 k5=>eoT<|coF<|coS<|qQ [] k5 fun w6 k6=>coF<|coZ<|qF [] k6 fun w7 k7=>eoT<|coT<|qQ [] k7 fun w8 k8=>JF<|Z3<|Jp<|Jj (.int .i64 3) ⟨rfl,k8.touch.below⟩
 by_cases h6:k=6
 · subst h6
   exact JB<|qQ [] (Many.begin W) fun w1 k1=>coS<|qQ [] k1 fun w2 k2=>coB<|coS<|qQ [] k2 fun w3 k3=>coF<|qQ [] k3 fun w4 k4=>coF<|coZ<|qF [] k4 fun w5 k5=>eoT<|coF<|coS<|qQ [] k5 fun w6 k6=>coF<|coZ<|qF [] k6 fun w7 k7=>eoT<|coF<|qQ [] k7 fun w8 k8=>coT<|qQ [] k8 fun w9 k9=>JF<|Z3<|Jp<|Jj (.int .i64 4) ⟨rfl,k9.touch.below⟩
 have e:Jh k=0:=by
  unfold Jh
  rw[if_neg (by omega),if_neg (by omega),if_neg (by omega)]
 rw[e]
 exact JB<|qQ [] (Many.begin W) fun w1 k1=>coS<|qQ [] k1 fun w2 k2=>coB<|coS<|coR<|qR 1 [] k2 fun ww kk=>tell 5 (show (k==1)=false by simpa using h1)<|qE [] kk fun w3 k3=>coF<|coR<|qR 1 [] k3 fun ww kk=>tell 6 (show (k==2)=false by simpa using h2)<|qE [] kk fun w4 k4=>coF<|coZ<|qR 1 [] k4 fun ww kk=>tell 7 (show (k==3)=false by simpa using h3)<|qF [] kk fun w5 k5=>eoT<|coF<|coS<|coR<|qR 1 [] k5 fun ww kk=>tell 9 (show (k==4)=false by simpa using h4)<|qE [] kk fun w6 k6=>coF<|coZ<|qR 1 [] k6 fun ww kk=>tell 10 (show (k==5)=false by simpa using h5)<|qF [] kk fun w7 k7=>eoT<|coF<|coR<|qR 1 [] k7 fun ww kk=>tell 12 (show (k==6)=false by simpa using h6)<|qE [] kk fun w8 k8=>coF<|JC<|eoB<|eoT<|qQ [] k8 fun w9 k9=>JF<|Jj (.int .i64 0) ⟨rfl,k9.touch.below⟩
theorem QIm (c:Cy)(W:World):Calls Tryz.prog 43 #[cyV c] W fun e W'=>e=.returned (.int .i64 (QDg c))∧Below W.heap.size W W':=by
 go_enter Tryz.func43,Tryz.ntmps43
 refine JB<|qQ [] (Many.begin W) fun w1 k1=>coS<|qP 20 k1 fun w2 k2=>qD 0 [0,1] k2 ?_
 by_cases h1:c.kind < 1
 · rw[QBf (show Zb c=false from decide_eq_false fun x=>by omega)]
   exact qT 2 k2 (fun w' _=>ZD (egI _ _ _ _ _ _) (QHy _ _ true (decide_eq_true h1) _))<|qM [3,4,5,6,7,8,9,10,11,12,13,14,15,16,17,18,19] k2<|poE<|qE [] k2 fun w5 k5=>coT<|qQ [] k5 fun w6 k6=>JF<|Jp<|Jj (.int .i64 1) ⟨rfl,k6.touch.below⟩
 refine qT 2 k2 (fun w' _=>ZD (egI _ _ _ _ _ _) (QHy _ _ false (decide_eq_false h1) _))<|qD 0 [3,4,5] k2 ?_
 by_cases h2:7 < c.kind
 · rw[QBf (show Zb c=false from decide_eq_false fun x=>by omega)]
   exact qT 6 k2 (fun w' _=>ZD (egI _ _ _ _ _ _) (QJT _ _ true (decide_eq_true h2) _))<|qM [7,8,9,10,11,12,13,14,15,16,17,18,19] k2<|poE<|qE [] k2 fun w5 k5=>coT<|qQ [] k5 fun w6 k6=>JF<|Jp<|Jj (.int .i64 1) ⟨rfl,k6.touch.below⟩
 refine qT 6 k2 (fun w' _=>ZD (egI _ _ _ _ _ _) (QJT _ _ false (decide_eq_false h2) _))<|qD 0 [7,8,9,10,11,12] k2<|qDc 13 (QCD c.kind w2) k2 fun w4 k4=>?_
 by_cases h3:c.t≤(Jh c.kind:Int)
 · rw[QBf (show Zb c=false from decide_eq_false fun x=>by omega)]
   exact qT 14 k4 (fun w' _=>ZD (egI _ _ _ _ _ _) (QRA _ _ true (decide_eq_true h3) _))<|qM [15,16,17,18,19] k4<|poE<|qE [] k4 fun w5 k5=>coT<|qQ [] k5 fun w6 k6=>JF<|Jp<|Jj (.int .i64 1) ⟨rfl,k6.touch.below⟩
 refine qT 14 k4 (fun w' _=>ZD (egI _ _ _ _ _ _) (QRA _ _ false (decide_eq_false h3) _))<|qD 0 [15,16,17,18] k4 ?_
 by_cases h4:32 < c.t
 · rw[QBf (show Zb c=false from decide_eq_false fun x=>by omega)]
   exact qT 19 k4 (fun w' _=>ZD (egI _ _ _ _ _ _) (QJT _ _ true (decide_eq_true h4) _))<|poE<|qE [] k4 fun w5 k5=>coT<|qQ [] k5 fun w6 k6=>JF<|Jp<|Jj (.int .i64 1) ⟨rfl,k6.touch.below⟩
 · rw[QOb (show Zb c=true from decide_eq_true ⟨by omega,by omega,by omega,by omega⟩)]
   exact qT 19 k4 (fun w' _=>ZD (egI _ _ _ _ _ _) (QJT _ _ false (decide_eq_false h4) _))<|poE<|qE [] k4 fun w5 k5=>coF<|JC<|eoT<|qQ [] k5 fun w6 k6=>JF<|Jj (.int .i64 0) ⟨rfl,k6.touch.below⟩
def QSB (h s:Nat)(wait:Bool)(x:js):List Value:=[x.y 0,.bool wait,pT h 0,x.y 3,pT (h+1) 0,.bool false,.bool false,.int .i64 (s:Int),x.y 8,x.y 9,x.y 10,x.y 11,x.y 12,x.y 13,x.y 14,x.y 15,x.y 16,x.y 17,x.y 18,x.y 19,x.y 20,x.y 21,x.y 22,x.y 23,x.y 24,x.y 25,x.y 26,x.y 27,x.y 28,x.y 29,x.y 30,x.y 31,x.y 32,x.y 33,x.y 34,x.y 35,x.y 36,x.y 37,x.y 38,x.y 39,x.y 40,x.y 41,x.y 42,x.y 43,x.y 44,x.y 45,x.y 46,x.y 47,x.y 48,x.y 49,x.y 50,x.y 51,x.y 52,x.y 53,x.y 54,x.y 55,x.y 56,x.y 57,x.y 58,x.y 59,x.y 60,x.y 61,x.y 62,x.y 63,x.y 64,x.y 65,x.y 66]
theorem QBd (a:AtT)(wait:Bool)(W:World):Calls Tryz.prog 28 #[atV a,.bool wait] W fun e W'=>e=.returned (zw a wait)∧Below W.heap.size W W':=by
 go_enter Tryz.func28,Tryz.ntmps28
 refine JB<|qQ [] (Many.begin W) fun w1 k1=>coS<|coR<|qR 2 [0] k1 fun w2 k2=>qC (QIm a.c w2) k2 fun w3 k3=>qR 1 [] k3 fun w4 k4=>?_
 by_cases h:Zb a.c=false∨a.k < 0∨a.c.t≤a.k
 · unfold zw
   rw[QKu h]
   by_cases h1:Zb a.c=false
   · exact tell 11 (show (QDg a.c != 0)=true by rw[QAn,h1];rfl)<|qE [] k4 fun w5 k5=>coT<|qQ [0,1] k5 fun w6 k6=>JF<|Jp<|QCV (k6.row 1 (b:=W.heap.size+1) (t:=35) (atC a).toList (by kernel_rfl)) ⟨rfl,k6.touch.below⟩
   · have h1':Zb a.c=true:=by simpa using h1
     refine tell 11 (show (QDg a.c != 0)=false by rw[QAn,h1'];rfl)<|qR 4 [0] k4 fun w5 k5=>?_
     by_cases h2:a.k < 0
     · exact tell 15 (show decide (a.k < 0)=true from decide_eq_true h2)<|qE [] k5 fun w5 k5=>coT<|qQ [0,1] k5 fun w6 k6=>JF<|Jp<|QCV (k6.row 1 (b:=W.heap.size+1) (t:=35) (atC a).toList (by kernel_rfl)) ⟨rfl,k6.touch.below⟩
     · have h3:a.c.t≤a.k:=by rcases h with h|h|h<;>first|exact absurd h h1|exact absurd h h2|exact h
       exact tell 15 (show decide (a.k < 0)=false from decide_eq_false h2)<|qR 8 [0,0] k5 fun w6 k6=>tell 23 (show decide (a.c.t≤a.k)=true from decide_eq_true h3)<|qE [] k6 fun w5 k5=>coT<|qQ [0,1] k5 fun w6 k6=>JF<|Jp<|QCV (k6.row 1 (b:=W.heap.size+1) (t:=35) (atC a).toList (by kernel_rfl)) ⟨rfl,k6.touch.below⟩
 obtain⟨h1,h2,h3,h4⟩:=QEn h
 refine tell 11 (show (QDg a.c != 0)=false by rw[QAn,h1];rfl)<|qR 4 [0] k4 fun w5 k5=>tell 15 (show decide (a.k < 0)=false from decide_eq_false (by omega))<|qR 8 [0,0] k5 fun w6 k6=>tell 23 (show decide (a.c.t≤a.k)=false from decide_eq_false (by omega))<|qE [] k6 fun w7 k7=>coF<|JC<|eoT ?_
 refine coR<|qR 3 [0] k7 fun w8 k8=>qC (QCD a.c.kind w8) k8 fun w9 k9=>qE [] k9 fun wa kc=>?_
 have hs4:=QK3 a.c.kind
 refine QBJ (QSB W.heap.size (Jh a.c.kind) wait) (fun _ w=>Many W [] [⟨W.heap.size,35,(atC a).toList.map some⟩,⟨W.heap.size+1,35,(atC zeroAt).toList.map some⟩] w∧¬(Jh a.c.kind≠0∧a.k=(Jh a.c.kind:Int)-1∧wait=true)) ?_ ?_
 · refine coR<|qR 2 [] kc fun wd kd=>?_
   by_cases h5:Jh a.c.kind=0
   · exact tell 31 (show decide ((Jh a.c.kind:Int) > 0)=false from decide_eq_false (by omega))<|qE [] kd fun wd kd=>coF<|JC<|XD (fun y=>⟨y⟩) ⟨kd.take 2 _,fun x=>x.1 h5⟩
   refine tell 31 (show decide ((Jh a.c.kind:Int) > 0)=true from decide_eq_true (by omega))<|qR 4 [0] kd fun wd kd=>kBj 36 (.int .i64 (Jh a.c.kind:Nat)) (.int .i64 1) (.int .i64 ((Jh a.c.kind:Int)-1)) (egI _ _ _ _ _) (QF7 _ _ (by omega) (by omega))<|qR 1 [] kd fun we ke=>?_
   by_cases h6:a.k=(Jh a.c.kind:Int)-1
   · cases wait with
     | false=>exact tell 37 (show (a.k==(Jh a.c.kind:Int)-1)=true by simpa using h6)<|qE [] ke fun wf kf=>coF<|JC<|XD (fun y=>⟨y⟩) ⟨kf.take 2 _,fun x=>by cases x.2.2⟩
     | true =>
       unfold zw
       rw[QCp h ⟨h5,h6,rfl⟩]
       exact tell 37 (show (a.k==(Jh a.c.kind:Int)-1)=true by simpa using h6)<|qE [] ke fun wf kf=>coT<|qQ [0,0] kf fun wg kg=>qQ [0,1] kg fun wh kh=>JF<|Jp<|QCV (kh.row 1 (b:=W.heap.size+1) (t:=35) (atC ⟨a.c,a.k,IntKind.i64.wrap (a.w+1)⟩).toList (by kernel_rfl)) ⟨rfl,kh.touch.below⟩
   · exact tell 37 (show (a.k==(Jh a.c.kind:Int)-1)=false by simpa using h6)<|qE [] ke fun wf kf=>coF<|JC<|XD (fun y=>⟨y⟩) ⟨kf.take 2 _,fun x=>h6 x.2.1⟩
 clear k1 k2 k3 k4 k5 k6 k7 k8 k9 kc
 rintro ⟨y⟩ w1 ⟨k1,h5⟩
 unfold zw
 rw[QG2 h h5]
 refine coR<|qR 2 [0] k1 fun w2 k2=>kBj 49 (.int .i64 a.k) (.int .i64 1) (.int .i64 (a.k+1)) (egI _ _ _ _ _) (QIj _ _ (by omega) (by omega))<|qE [0] k2 fun w3 k3=>?_
 have r0:Row w3 W.heap.size 35 (atC ⟨a.c,a.k+1,a.w⟩):=k3.row 0 (atC ⟨a.c,a.k+1,a.w⟩).toList (by kernel_rfl)
 have r1:Row w3 (W.heap.size+1) 35 (atC zeroAt):=k3.row 1 (atC zeroAt).toList (by kernel_rfl)
 have kp:=(Many.startB (c:=W.heap.size+1) r0).drew
 have r1d:=r1.drew'
 refine coP (S:=Many w3 [W.heap.size,W.heap.size+1] [⟨W.heap.size,35,(atC ⟨a.c,a.k+1,a.w⟩).toList.map some⟩]) 18 kp ?_
 have kq:=kp.beside (b:=W.heap.size+1) (by simp) (fun r hr=>by simp at hr;subst hr;show W.heap.size≠_;omega) 0 (atC ⟨a.c,a.k+1,a.w⟩).toList
 have rA:=r1d.setAll (vs:=atC ⟨a.c,a.k+1,a.w⟩) rfl
 have hR:∀ wA wB:World,Many w3 [W.heap.size,W.heap.size+1] [⟨W.heap.size,35,(atC ⟨a.c,a.k+1,a.w⟩).toList.map some⟩] wA→Below wA.heap.size wA wB→Below W.heap.size W wB:=fun wA wB k hB=>by
  have:=QCQ k3 k fun b hb=>by simp at hb;omega
  exact this.trans (hB.mono this.size)
 by_cases h6:Jh a.c.kind=0
 · rw[show decide (Jh a.c.kind≠0∧a.k+1=(Jh a.c.kind:Int)+1)=false from decide_eq_false fun x=>x.1 h6]
   refine qD 0 [0,1] kp<|qT 2 kp (fun w' _=>ZD (egI _ _ _ _ _ _) (QJT (Jh a.c.kind:Nat) 0 false (decide_eq_false (by omega)) _))<|qD 0 [3,4,5,6,7,8,9,10,11,12,13,14,15] kp<|jn 16 (soW (cs:=atC ⟨a.c,a.k+1,a.w⟩) r1d kq ?_ (by rfl) rfl)
   generalize w3.drew.setCells (W.heap.size+1) 0 (atC ⟨a.c,a.k+1,a.w⟩).toList=wA at *
   exact qM [17] kq<|poE<|qE [] (Many.begin wA) fun wB kB=>JF<|QCV (rA.below kB.touch.below rA.lt) ⟨rfl,hR _ _ kq kB.touch.below⟩
 · rw[show decide (Jh a.c.kind≠0∧a.k+1=(Jh a.c.kind:Int)+1)=decide (a.k+1=(Jh a.c.kind:Int)+1) from decide_eq_decide.2 ⟨fun x=>x.2,fun x=>⟨h6,x⟩⟩]
   refine qD 0 [0,1] kp<|qT 2 kp (fun w' _=>ZD (egI _ _ _ _ _ _) (QJT (Jh a.c.kind:Nat) 0 true (decide_eq_true (by omega)) _))<|qD 0 [3,4,5,6] kp<|qT 7 kp (fun w' _=>ZD (egI _ _ _ _ _ _) (QIj (Jh a.c.kind:Nat) 1 (by omega) (by omega) _))<|qD 0 [8,9,10,11,12,13,14,15] kp<|jn 16 (soW (cs:=atC ⟨a.c,a.k+1,a.w⟩) r1d kq ?_ (by rfl) rfl)
   generalize w3.drew.setCells (W.heap.size+1) 0 (atC ⟨a.c,a.k+1,a.w⟩).toList=wA at *
   exact qM [17] kq<|poE<|qE [] (Many.begin wA) fun wB kB=>JF<|QCV (rA.below kB.touch.below rA.lt) ⟨rfl,hR _ _ kq kB.touch.below⟩
def QTS (l:List Int):ByteArray:=⟨(l.map (fun x=>UInt8.ofNat x.toNat)).toArray⟩
theorem QTU {x:Int}(h:B8 x):((UInt8.ofNat x.toNat).toNat:Int)=x:=by
 have h1:=h.1
 have h2:=h.2
 have e:(UInt8.ofNat x.toNat).toNat=x.toNat%256:=UInt8.toNat_ofNat'
 omega
theorem QIF {W:World} {B:Nat} {A:Option Addr} {l:List Int}(cap:Nat)(h:BytesIn W B A l)(hl:Bytes8 l) :
 (convert 26 9 (.slice A l.length cap)).run Tryz.prog W=.ok (.string (QTS l)) W:=by
 cases A with
 | none =>
   have hx:l=[]:=by
    cases l with
    | nil=>rfl
    | cons y ys=>obtain⟨ad,e,-⟩:=h 0 y rfl;cases e
   subst hx
   refine (run_convert_bytes_string W 26 9 5 none 0 cap Tryz.underlying26 Tryz.underlying5 Tryz.underlying9).trans ?_
   rfl
 | some p =>
   have hlen:(l.map (fun x=>UInt8.ofNat x.toNat)).length=l.length:=by simp
   have k:=run_convert_bytes_back (P:=Tryz.prog) W 26 9 5 p cap (l.map (fun x=>UInt8.ofNat x.toNat)) Tryz.underlying26 Tryz.underlying5 Tryz.underlying9 (fun j hj=>by
    have hj':j < l.length:=by simpa using hj
    obtain⟨q,e,-,h1⟩:=h j l[j] (List.getElem?_eq_getElem hj')
    cases e
    rw[h1]
    have hb:=QTU (hl l[j] (List.getElem_mem hj'))
    simp only[List.getElem_map]
    rw[hb])
   rw[hlen] at k
   exact k
theorem QL5 (a:AtT)(w:World):(Op.equalIn 10000 35 (atV a) (atV a)).run Tryz.prog w=.ok true w:=by
 unfold atV atC
 rw[run_equalIn_agg (P:=Tryz.prog) w 9999 35 _ _ (by kernel_rfl) (by kernel_rfl)]
 simp[go_sem]
theorem QOd (a:AtT)(w:World):(binOp .eql 35 (atV a) (atV a)).run Tryz.prog w=.ok (.bool true) w:=by
 have h:=QL5 a w
 unfold atV at *
 rw[run_eql_struct,h]
 rfl
theorem QKi (op:BinOp)(a b:AtT)(x y:Operand)(w:World):(eqGuard op 35 x y (atV a) (atV b)).run Tryz.prog w=.ok () w:=by
 unfold atV
 exact run_eqGuard_agg (P:=Tryz.prog) w op _ x y _ _ (by kernel_rfl)
theorem QPV (b:Bool)(w:World):(binOp .eql 4 (.bool b) (.bool b)).run Tryz.prog w=.ok (.bool true) w:=by simp[go_sem]
theorem QJb (op:BinOp)(x y:Operand)(a b:Bool)(w:World):(eqGuard op 4 x y (.bool a) (.bool b)).run Tryz.prog w=.ok () w:=by simp[go_sem]
theorem e18I (n:Int)(w:World):(binOp .eql 3 (.int .i64 n) (.int .i64 n)).run Tryz.prog w=.ok (.bool true) w:=by simp[go_sem]
theorem e18U (n:Int)(w:World):(binOp .eql 5 (.int .u8 n) (.int .u8 n)).run Tryz.prog w=.ok (.bool true) w:=by simp[go_sem]
theorem g18U (op:BinOp)(x y:Operand)(a b:Int)(w:World):(eqGuard op 5 x y (.int .u8 a) (.int .u8 b)).run Tryz.prog w=.ok () w:=by simp[go_sem]
theorem e18S (s:ByteArray)(w:World):(binOp .eql 9 (.string s) (.string s)).run Tryz.prog w=.ok (.bool true) w:=by simp[go_sem]
theorem g18S (op:BinOp)(x y:Operand)(a b:ByteArray)(w:World):(eqGuard op 9 x y (.string a) (.string b)).run Tryz.prog w=.ok () w:=by simp[go_sem]
theorem QBZ (c:CoT)(h8:Bytes8 c.got)(u v:Value)(w:World)(hu:GotIn w w.heap.size u c.got)(hv:GotIn w w.heap.size v c.got):Calls Tryz.prog 19 #[coV c u,coV c v] w fun e w'=>e=.returned (.bool true)∧Below w.heap.size w w':=by
 obtain⟨A,cap,rfl,-,h1,-⟩:=hu
 obtain⟨A',cap',rfl,-,h2,-⟩:=hv
 go_enter Tryz.func19,Tryz.ntmps19
 exact JB<|qQ [] (Many.begin w) fun w1 k1=>coR<|qR 4 [0,1] k1 fun w2 k2=>kBj 9 (JH c.r) (JH c.r) (.bool true) (QBQ _ _ _ _ _) (QD2 c.r)<|qR 5 [0,1] k2 fun w3 k3=>kBj 15 (.int .i64 c.wh) (.int .i64 c.wh) (.bool true) (egI _ _ _ _ _) (e18I c.wh)<|qR 4 [0] k3 fun w4 k4=>wM (QPO (QIF cap (h1.below k4.touch.below) h8))<|qR 2 [1] k4 fun w5 k5=>wM (QPO (QIF cap' (h2.below k5.touch.below) h8)) <|
  kBj 24 (.string (QTS c.got)) (.string (QTS c.got)) (.bool true) (g18S _ _ _ _ _) (e18S _)<|qR 6 [0,1] k5 fun w6 k6=>kBj 31 (atV c.a) (atV c.a) (.bool true) (QKi _ _ _ _ _) (QOd c.a)<|qR 6 [0,1] k6 fun w7 k7=>kBj 38 (.int .u8 c.b) (.int .u8 c.b) (.bool true) (g18U _ _ _ _ _) (e18U c.b)<|qR 6 [0,1] k7 fun w8 k8=>kBj 45 (.bool c.nmi) (.bool c.nmi) (.bool true) (QJb _ _ _ _ _) (QPV c.nmi) <|
  qR 6 [0,1] k8 fun w9 k9=>kBj 52 (.bool c.was) (.bool c.was) (.bool true) (QJb _ _ _ _ _) (QPV c.was)<|qR 6 [0,1] k9 fun wa ka=>kBj 59 (.bool c.off) (.bool c.off) (.bool true) (QJb _ _ _ _ _) (QPV c.off)<|qE [] ka fun wb kb=>JF<|Jj (.bool true) ⟨rfl,kb.touch.below⟩
theorem Zt (c:CoT)(A:Option Addr)(n cap:Nat)(w:World):Calls Tryz.prog 20 #[coV c (.slice A n cap)] w fun e w'=>e=.returned (coV c (.slice A n cap))∧Below w.heap.size w w':=by
 go_enter Tryz.func20,Tryz.ntmps20
 exact JB<|qQ [] (Many.begin w) fun w1 k1=>qQ [0,0,0,0,0,0,0,0,0,0,1] k1 fun w2 k2=>JF<|Zk (k2.row 1 (b:=w.heap.size+1) (t:=37) (coC c (.slice A n cap)).toList (by kernel_rfl)) ⟨rfl,k2.touch.below⟩
theorem Zq (l:LnT)(w:World):Calls Tryz.prog 14 #[lnV l] w fun e w'=>e=.returned (lnV l)∧Below w.heap.size w w':=by
 go_enter Tryz.func14,Tryz.ntmps14
 exact JB<|qQ [] (Many.begin w) fun w1 k1=>qQ [0,0,0,0,0,1] k1 fun w2 k2=>JF<|Zk (k2.row 1 (b:=w.heap.size+1) (t:=44) (lnC l).toList (by kernel_rfl)) ⟨rfl,k2.touch.below⟩
def ExB (X:Except Cy (Ms×List Int)):Prop:=match X with|.ok (s,_)=>MsB s|.error c=>CyW c
theorem QNv {W:World}(ht:Tabs W W.heap.size){s:Ms}(hs:MsB s){c:Int}(hc:B8 c){xs:List Int}(hx:Bytes8 xs):ExB (XK xs c s.noLate):=by
 have r1:=Row.new W 5 (bvs xs).toArray
 have b1:=Below.alloc (Below.refl W.heap.size W) (Nat.le_refl _) (.cells (bvs xs).toArray 5)
 generalize W.alloc (.cells (bvs xs).toArray 5)=w1 at *
 have h1:Tabs w1 w1.heap.size:=ht.below b1
 have hy:=QMY r1
 have r2:=Row.new w1 118 (mC s (some ⟨W.heap.size,0,none⟩) xs.length xs.length)
 have b2:=Below.alloc (Below.refl w1.heap.size w1) (Nat.le_refl _) (.cells (mC s (some ⟨W.heap.size,0,none⟩) xs.length xs.length) 118)
 generalize w1.alloc (.cells (mC s (some ⟨W.heap.size,0,none⟩) xs.length xs.length) 118)=w2 at *
 have hat:AtN w2 w1.heap.size w1.heap.size s xs:=⟨⟨_,_,Nat.le_refl _,r2,hy.below b2⟩,Nat.le_refl _,hx,hs,h1.keep fun b hb=>b2.block b hb⟩
 obtain⟨e,w',fr,hO,-⟩:=qz c hc hat []
 unfold ExB
 cases hX:XK xs c s.noLate with
 | error d =>
   rw[hX] at hO
   have hO:_∧BesC _ d _ _:=hO
   exact hO.2.cyw
 | ok q =>
   rw[hX] at hO
   have hO:_∧NowN _ _ _ q.1 q.2 _:=hO
   exact hO.2.at_.ms
theorem QRu {X:Except Cy (Ms×List Int)}(h:ExB X):((ofX X).b=true→RgB (ofX X).g)∧((ofX X).b=false→Wd16 (ofX X).c.addr∧B8 (ofX X).c.data):=by
 rcases X with c|⟨s,ys⟩
 · exact⟨fun e=>(by cases e),fun _=>h⟩
 · have h:MsB s:=h
   exact⟨fun _=>h.r,fun e=>(by cases e)⟩
theorem QJd {l:List Cy} {g:Rg}(hl:∀ c∈l,CyW c)(n:Nat)(hg:l.length≤n→RgB g):((Qj l g n).b=true→RgB (Qj l g n).g)∧((Qj l g n).b=false→Wd16 (Qj l g n).c.addr∧B8 (Qj l g n).c.data):=by
 unfold Qj
 split
 · rename_i hn
   refine⟨fun e=>(by cases e),fun _=>?_⟩
   have e:(QKf (l.getD n JL)).c=l[n]:=by rw[List.getD_eq_getElem?_getD,List.getElem?_eq_getElem hn];rfl
   rw[e]
   exact hl _ (List.getElem_mem hn)
 · exact⟨fun _=>hg (by omega),fun e=>(by cases e)⟩
theorem QKb {sp pc:Int}(hp:Wd16 pc):∀ c∈Q7 sp pc,CyW c:=by
 intro c h
 simp only[Q7,List.mem_cons,List.not_mem_nil,or_false] at h
 rcases h with rfl|rfl|rfl
 · exact⟨Wd16.zero,B8.zero⟩
 · exact⟨Wd16.mod _,hp.hi⟩
 · exact⟨Wd16.mod _,hp.lo8⟩
theorem QQw {a:Int}(ha:Wd16 a):∀ c∈Z1 a,CyW c:=by
 intro c h
 simp only[Z1,List.mem_cons,List.not_mem_nil,or_false] at h
 rcases h with rfl|rfl
 · exact⟨ha,B8.zero⟩
 · exact⟨Wd16.mod _,B8.zero⟩
theorem QKD {g:Rg}(h:RgB g){aim:Int}(ha:Wd16 aim):RgB (X4 g aim):=⟨h.af,h.bc,h.de,h.hl,h.af2,h.bc2,h.de2,h.hl2,h.ix,h.iy,Wd16.mod _,ha,ha,h.i,h.r,h.mode⟩
theorem QNK {a b:Int}(ha:B8 a)(hb:B8 b):Wd16 (256*a+b):=by
 obtain⟨a0,a1⟩:=ha
 obtain⟨b0,b1⟩:=hb
 exact⟨by omega,by omega⟩
theorem QKj {W:World}(ht:Tabs W W.heap.size):jJ:=by
 intro g which xs hg hx
 unfold Jr
 split
 · cases xs with
   | nil=>exact⟨fun e=>(by cases e),fun _=>⟨hg.pc,B8.zero⟩⟩
   | cons v ys=>exact QJd (QKb hg.pc) _ fun _=>QKD (hg.beg _ _) ⟨by decide,by decide⟩
 · split
   · cases xs with
     | nil=>exact⟨fun e=>(by cases e),fun _=>⟨hg.pc,B8.zero⟩⟩
     | cons v ys =>
       have hv:=hx.head
       show ((QCG g v ys).b=true→RgB (QCG g v ys).g)∧((QCG g v ys).b=false→Wd16 (QCG g v ys).c.addr∧B8 (QCG g v ys).c.data)
       unfold QCG
       split
       · split
         · exact⟨fun _=>hg.beg _ _,fun e=>(by cases e)⟩
         · exact QRu (QNv ht (QAS (hg.beg false false)) hv hx.tail)
       · split
         · exact QJd (QKb hg.pc) _ fun _=>QKD (hg.beg _ _) ⟨by decide,by decide⟩
         · exact QJd (fun c hc=>(List.mem_append.1 hc).elim (QKb hg.pc c) (QQw (QNK hg.i hv) c)) _ fun _=>QKD (hg.beg _ _) (QNK (hx.tail.getD 4) (hx.tail.getD 3))
   · refine QRu ?_
     cases xs with
     | nil=>rw[QD3];exact⟨hg.pc,B8.zero⟩
     | cons b bs =>
       have ht1:RgB (ZI g 1):=hg.tick 1
       cases hh:g.halted with
       | true =>
         rw[QCS hh]
         have h0:=QAS hg
         exact⟨ht1,h0.plane,h0.x,h0.y,h0.z,h0.p,h0.q,h0.spot⟩
       | false =>
         rw[QAh hh]
         have h0:=QAS hg
         have hB:MsB ({ ms0 g with r:=ZI g 1 }:Ms).pcUp:=⟨⟨ht1.af,ht1.bc,ht1.de,ht1.hl,ht1.af2,ht1.bc2,ht1.de2,ht1.hl2,ht1.ix,ht1.iy,ht1.sp,Wd16.mod _,ht1.wz,ht1.i,ht1.r,ht1.mode⟩,.inl rfl,h0.x,h0.y,h0.z,h0.p,h0.q,h0.spot⟩
         exact QNv ht hB hx.head hx.tail
end Go.Proofs.YtkenebbjodcbcaaGreatDoor
