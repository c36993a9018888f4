/- Contracts and facts that the claim's proof wants (several texts in one). -/
import Derived.ProofKit
import Derived.OpenShut
import Derived.ChangeArms
import Derived.Deep.Fields
import Derived.ChangeSlices
import Derived.Deep.SlicePairs
import Derived.Lib.SmallJoins
import Derived.Test.YtkgaeamdhhceiaaGreatDoorSrG32
namespace Go.Proofs.YtkgaeamdhhceiaaGreatDoor
open Go.RowKit
set_option linter.unusedVariables false
set_option linter.unusedSimpArgs false
set_option maxRecDepth 20000
set_option maxHeartbeats 20000000
def KB (c:Cy):Prop:=1≤c.kind∧c.kind≤7
theorem QLz (sp pc:Int):∀ c∈Qx sp pc,KB c:=by
 intro c h
 simp only[Qx,List.mem_cons,List.not_mem_nil,or_false] at h
 unfold KB
 rcases h with rfl|rfl|rfl<;>simp
theorem QSQ (a:Int):∀ c∈ZO a,KB c:=by
 intro c h
 simp only[ZO,List.mem_cons,List.not_mem_nil,or_false] at h
 unfold KB
 rcases h with rfl|rfl<;>simp
theorem QLa {l:List Cy}(h:∀ c∈l,KB c)(g:Rg)(n:Nat)(hb:(Qg l g n).b=false):KB (Qg l g n).c:=by
 unfold Qg at *
 split
 · rename_i hn
   have e:(QLE (l.getD n JM)).c=l[n]:=by rw[List.getD_eq_getElem?_getD,List.getElem?_eq_getElem hn];rfl
   rw[e]
   exact h _ (List.getElem_mem hn)
 · rename_i hn
   rw[if_neg hn] at hb
   cases hb
theorem QTO {X:Except Cy (Ms×List Int)}(h:∀ e,X=.error e→CyK e)(hb:(ofX X).b=false):KB (ofX X).c:=by
 rcases X with e|⟨s,ys⟩
 · have:=h e rfl;exact⟨this.1,this.2.1⟩
 · cases hb
theorem QWM (g:Rg)(which:Int)(xs:List Int)(hb:(Jp g which xs).b=false):KB (Jp g which xs).c:=by
 unfold Jp at *
 split
 · rename_i h1
   rw[if_pos h1] at hb
   cases xs with
   | nil=>exact⟨by show (1:Int)≤1;omega,by show (1:Int)≤7;omega⟩
   | cons v ys=>exact QLa (QLz _ _) _ _ hb
 · rename_i h1
   rw[if_neg h1] at hb
   split
   · rename_i h2
     rw[if_pos h2] at hb
     cases xs with
     | nil=>exact⟨by show (1:Int)≤6;omega,by show (6:Int)≤7;omega⟩
     | cons v ys =>
       simp only at hb ⊢
       unfold QBJ at *
       split
       · rename_i h3
         rw[if_pos h3] at hb
         split
         · rename_i h4;rw[if_pos h4] at hb;cases hb
         · rename_i h4;rw[if_neg h4] at hb;exact QTO (fun e he=>QML he) hb
       · rename_i h3
         rw[if_neg h3] at hb
         split
         · rename_i h4;rw[if_pos h4] at hb;exact QLa (QLz _ _) _ _ hb
         · rename_i h4;rw[if_neg h4] at hb
           exact QLa (fun c hc=>(List.mem_append.1 hc).elim (QLz _ _ c) (QSQ _ c)) _ _ hb
   · rename_i h2
     rw[if_neg h2] at hb
     exact QTO (fun e he=>QPT he) hb
structure RsX where
 x:Sx
 A:Option Addr
 c:Nat
 Ap:Option Addr
 cp:Nat
 vg:Value
 vl:Value
 y:Nat→Value
def rsB (V:Value)(which v:Int)(b3 b6:Nat)(x:RsX):List Value:=[V,.int .i64 which,.int .u8 v,pT b3 0,x.y 4,x.y 5,pT b6 0,.slice none 0 0,.int .i64 0,.slice x.A (mkS x.x.m).length x.c,.slice x.Ap x.x.p.length x.cp,x.vg,x.vl,.int .i64 x.x.n,x.y 14,x.y 15,x.y 16,x.y 17,x.y 18,x.y 19,x.y 20,x.y 21,x.y 22,x.y 23,x.y 24,x.y 25,x.y 26,x.y 27,x.y 28,x.y 29,x.y 30,x.y 31,x.y 32,x.y 33,x.y 34,x.y 35,x.y 36,x.y 37,x.y 38,x.y 39,x.y 40,x.y 41,x.y 42,x.y 43,x.y 44,x.y 45,x.y 46,x.y 47,x.y 48,x.y 49,x.y 50,x.y 51,x.y 52,x.y 53,x.y 54,x.y 55,x.y 56,x.y 57,x.y 58,x.y 59,x.y 60,x.y 61,x.y 62,x.y 63,x.y 64,x.y 65,x.y 66,x.y 67,x.y 68,x.y 69,x.y 70,x.y 71,x.y 72,x.y 73,x.y 74,x.y 75,x.y 76,x.y 77,x.y 78,x.y 79,x.y 80,x.y 81,x.y 82,x.y 83,x.y 84,x.y 85,x.y 86,x.y 87,x.y 88,x.y 89,x.y 90,x.y 91,x.y 92,x.y 93,x.y 94,x.y 95,x.y 96,x.y 97,x.y 98,x.y 99]
structure RsI (B Bp:Nat)(Z:World)(g:Rg)(which v:Int)(mlen plen:Nat)(X:Sx)(q:RsX)(W:World):Prop where
 go:goS g which v (200-q.x.got.length) q.x=X
 len:q.x.got.length≤200
 low:Below Z.heap.size Z W
 cat:CellsIn W W.heap.size q.A (mkS q.x.m)
 cnil:q.A=none→q.c=0
 ccap:(mkS q.x.m).length≤q.c
 off:∀ p,q.A=some p→B+2≤p.block∧p.block < W.heap.size
 pat:BytesIn W Bp q.Ap q.x.p
 pnil:q.Ap=none→q.cp=0
 pcap:q.x.p.length≤q.cp
 got:W.ownsRow Z.heap.size 5 1 q.vg q.x.got.length (bvs q.x.got)
 list:W.ownsRow Z.heap.size 54 4 q.vl q.x.l.length (QH q.x.l)
 a1:∀ p,q.A=some p→q.vg.ownBlock≠some p.block∧q.vl.ownBlock≠some p.block
 a2:∀ b,q.vg.ownBlock=some b→q.vl.ownBlock≠some b
 ok:OkS q.x
 n0:0≤q.x.n
 n7:q.x.n≤7*q.x.got.length
 ml:q.x.m.length≤mlen+q.x.got.length
 pl:q.x.p.length≤plen
 ll:q.x.l.length≤q.x.got.length
def rsT (V:Value)(which v:Int)(b3 b6:Nat)(n:Int)(A:Option Addr)(m:List (Int×Int))(c:Nat)(Ap:Option Addr)(p:List Int)(cp:Nat)(vg vl:Value)(Y:Nat)(b:Int)(x:QFo):List Value:=[V,.int .i64 which,.int .u8 v,pT b3 0,x.y 4,x.y 5,pT b6 0,.slice none 0 0,.int .i64 0,.slice A (mkS m).length c,.slice Ap p.length cp,vg,vl,.int .i64 n,pT Y 0,x.y 15,x.y 16,.int .u8 b,x.y 18,x.y 19,x.y 20,x.y 21,x.y 22,x.y 23,x.y 24,x.y 25,x.y 26,x.y 27,x.y 28,x.y 29,x.y 30,x.y 31,x.y 32,x.y 33,x.y 34,x.y 35,x.y 36,x.y 37,x.y 38,x.y 39,x.y 40,x.y 41,x.y 42,x.y 43,x.y 44,x.y 45,x.y 46,x.y 47,x.y 48,x.y 49,x.y 50,x.y 51,x.y 52,x.y 53,x.y 54,x.y 55,x.y 56,x.y 57,x.y 58,x.y 59,x.y 60,x.y 61,x.y 62,x.y 63,x.y 64,x.y 65,x.y 66,x.y 67,x.y 68,x.y 69,x.y 70,x.y 71,x.y 72,x.y 73,x.y 74,x.y 75,x.y 76,x.y 77,x.y 78,x.y 79,x.y 80,x.y 81,x.y 82,x.y 83,x.y 84,x.y 85,x.y 86,x.y 87,x.y 88,x.y 89,x.y 90,x.y 91,x.y 92,x.y 93,x.y 94,x.y 95,x.y 96,x.y 97,x.y 98,x.y 99]
structure TailF (B Bp:Nat)(W wz:World)(c:Cy)(v:Int)(x:Sx)(vg vl:Value)(Y:Nat)(b:Int)(c':Cy)(A:Option Addr)(m:List (Int×Int))(cM:Nat)(Ap:Option Addr)(p:List Int)(cp:Nat):Prop where
 row:Row wz Y 54 (cyC c')
 kind:c'.kind=c.kind
 told:c.kind≠7→c'=Zp c b
 ans:b=ZD c v x.m x.p
 mem:m=X3 c x.m
 por:p=Zy c x.p
 low:Below W.heap.size W wz
 cat:CellsIn wz wz.heap.size A (mkS m)
 cnil:A=none→cM=0
 ccap:(mkS m).length≤cM
 off:∀ q,A=some q→B+2≤q.block∧q.block < wz.heap.size
 offY:∀ q,A=some q→q.block≠Y
 a1:∀ q,A=some q→vg.ownBlock≠some q.block∧vl.ownBlock≠some q.block
 pat:BytesIn wz Bp Ap p
 pnil:Ap=none→cp=0
 pcap:p.length≤cp
section
variable {B Bp:Nat} {W wz:World} {c:Cy} {v:Int} {x:Sx} {vg vl:Value} {Y:Nat} {b:Int} {c':Cy} {A:Option Addr} {m:List (Int×Int)} {cM:Nat} {Ap:Option Addr} {p:List Int} {cp:Nat}
abbrev TailF.eA (_:TailF B Bp W wz c v x vg vl Y b c' A m cM Ap p cp):Option Addr:=A
abbrev TailF.eM (_:TailF B Bp W wz c v x vg vl Y b c' A m cM Ap p cp):List (Int×Int):=m
abbrev TailF.eC (_:TailF B Bp W wz c v x vg vl Y b c' A m cM Ap p cp):Nat:=cM
abbrev TailF.eP (_:TailF B Bp W wz c v x vg vl Y b c' A m cM Ap p cp):Option Addr:=Ap
abbrev TailF.eL (_:TailF B Bp W wz c v x vg vl Y b c' A m cM Ap p cp):List Int:=p
abbrev TailF.eCp (_:TailF B Bp W wz c v x vg vl Y b c' A m cM Ap p cp):Nat:=cp
abbrev TailF.eB (_:TailF B Bp W wz c v x vg vl Y b c' A m cM Ap p cp):Int:=b
abbrev TailF.eY (_:TailF B Bp W wz c v x vg vl Y b c' A m cM Ap p cp):Cy:=c'
abbrev TailF.eW (_:TailF B Bp W wz c v x vg vl Y b c' A m cM Ap p cp):World:=wz
abbrev QKO {w:World} {b:Nat} {e:TypeId} {s:Nat} {v:Value} {n:Nat} {xs:List Value}(_:w.ownsRow b e s v n xs):Value:=v
abbrev lOf {l l':List Cy}(_:l=l'):List Cy:=l
theorem TailF.next (h:TailF B Bp W wz c v x vg vl Y b c' A m cM Ap p cp){l:List Cy}(hl:l=QCA c b x.l):(⟨x.got++[b],m,p,l,x.n+c.t⟩:Sx)=QT c v x:=by
 rw[hl,h.mem,h.por,h.ans]
 rfl
end
theorem QFs {w:World} {b:Nat} {t:TypeId} {g:Rg} {M P:Value}(h:Row w b t (JQ g M P)):w.rangeAt b 0 (JH g).toList:=by
 intro j u hu
 rw[Nat.zero_add,h.cell j]
 have hj:j < 20:=(List.getElem?_eq_some_iff.1 hu).1
 have e:(JQ g M P)[j]?=(JH g).toList[j]?:=by
  have:(JQ g M P)=((JH g).toList++[M,P]).toArray:=rfl
  rw[this,List.getElem?_toArray,List.getElem?_append_left (by exact hj)]
 rw[e];exact hu
theorem CellsIn.kept {S:Nat→Prop} {w w':World} {B:Nat} {A:Option Addr} {l:List (Int×Int)}(h:CellsIn w B A l)(k:Kept S w w')(hB:B≤w.heap.size)(hS:∀ p,A=some p→¬S p.block):CellsIn w' B A l:=fun j c hc=>by
 obtain⟨p,e,hp,h0,h1⟩:=h j c hc
 have hb:=k.block p.block (Nat.lt_of_lt_of_le hp hB) (hS p e)
 exact⟨p,e,hp,(World.cell?_of_block (by rw[add_block];exact hb)).trans h0,(World.cell?_of_block (by rw[add_block,add_block];exact hb)).trans h1⟩
theorem QEj {w:World} {b n:Nat} {A:Option Addr} {c:Nat} {e:TypeId} {s:Nat} {xs:List Value}(h:w.ownsRow b e s (.slice A n c) n xs):∀ q,A=some q→b≤q.block∧q.block < w.heap.size:=fun q hq=>h.lt q.block (by rw[hq];rfl)
def InP (W:World)(Bp n:Nat)(V:Value)(w:Wd):Prop:=∃ A c A' c',V=Q2 w.g (.slice A w.m.length c) (.slice A' w.p.length c')∧CellsIn W W.heap.size A w.m∧(A=none→c=0)∧w.m.length≤c∧BytesIn W Bp A' w.p∧(A'=none→c'=0)∧w.p.length≤c'∧(∀ q,A=some q→n≤q.block)
theorem InP.inW {W:World} {Bp n:Nat} {V:Value} {w:Wd}(h:InP W Bp n V w)(hB:Bp≤W.heap.size):InW W W.heap.size V w:=by
 obtain⟨A,c,A',c',h1,h2,h3,h4,h5,h6,h7,-⟩:=h
 exact⟨A,c,A',c',h1,h2,h3,h4,h5.more hB,h6,h7⟩
theorem InW.inP {W:World} {V:Value} {w:Wd}(h:InW W W.heap.size V w):InP W W.heap.size 0 V w:=by
 obtain⟨A,c,A',c',h1,h2,h3,h4,h5,h6,h7⟩:=h
 exact⟨A,c,A',c',h1,h2,h3,h4,h5,h6,h7,fun _ _=>Nat.zero_le _⟩
theorem InP.kept {S:Nat→Prop} {W W':World} {Bp n:Nat} {V:Value} {w:Wd}(h:InP W Bp n V w)(k:Kept S W W')(hB:Bp≤W.heap.size)(hS:∀ b,S b→b < n∧Bp≤b):InP W' Bp n V w:=by
 obtain⟨A,c,A',c',h1,h2,h3,h4,h5,h6,h7,h8⟩:=h
 exact⟨A,c,A',c',h1,(h2.kept k (Nat.le_refl _) fun q e y=>by have:=h8 q e;have:=(hS _ y).1;omega).more k.size,h3,h4,h5.keep fun b hb=>k.block b (by omega) fun y=>by have:=(hS _ y).2;omega,h6,h7,h8⟩
theorem InP.on {W W':World} {Bp n:Nat} {V:Value} {w:Wd}(h:InP W Bp n V w)(k:Below W.heap.size W W')(hB:Bp≤W.heap.size):InP W' Bp n V w:=h.kept (S:=fun _=>False) (.of_below k) hB fun _ e=>e.elim
theorem QHF (hA:jK){V:Value} {w:Wd}(which v:Int)(Bp n0:Nat)(W:World)(hw:OkW w)(hv:B8 v)(hl:w.m.length≤800000)(hp:w.p.length≤1000000)(h:InP W Bp n0 V w)(hBp:Bp≤W.heap.size) :
 Calls Tryz.prog 10 #[V,.int .i64 which,.int .u8 v] W fun e W'=>∃ V' A c,e=.returned (.tuple #[V',.slice A (Jj w which v).l.length c,.int .i64 (Jj w which v).n])∧InP W' Bp W.heap.size V' (mkW (QG8 w which v))∧CysIn W' W'.heap.size A (Jj w which v).l∧(A=none→c=0)∧(Jj w which v).l.length≤c∧Below W.heap.size W W':=by
 obtain⟨A,c,A',c',rfl,h1,h2,h3,h4,h5,h6,-⟩:=h
 obtain⟨g,m,p⟩:=w
 have hg:RgB g:=hw.g
 have hl:m.length≤800000:=hl
 have hp:p.length≤1000000:=hp
 obtain⟨X,hX⟩:∃ X,X=Jj ⟨g,m,p⟩ which v:=⟨_,rfl⟩
 have eR:mkW (QG8 ⟨g,m,p⟩ which v)=⟨QLR g which X,mkS X.m,X.p⟩:=by rw[hX];rfl
 rw[eR,←hX]
 go_enter Tryz.func10,Tryz.ntmps10
 refine JB<|qQ [] (Many.begin W) fun w1 k1=>coR<|qR 2 [0] k1 fun w2 k2=>kX (zM A c m (Nat.le_trans hl (by decide)) hw.m w2 ((h1.below k2.touch.below).more k2.touch.size)) fun e w3 ⟨vM,he,ownM,hb3⟩=>⟨_,he,?_⟩
 have hb2:=k2.touch.below
 have r3:Row w2 W.heap.size 34 (JQ g (.slice A m.length c) (.slice A' p.length c')):=k2.row 0 (JQ g (.slice A m.length c) (.slice A' p.length c')).toList (by kernel_rfl)
 have r6:Row w2 (W.heap.size+1) 34 (JQ JV (.slice none 0 0) (.slice none 0 0)):=k2.row 1 (JQ JV (.slice none 0 0) (.slice none 0 0)).toList (by kernel_rfl)
 have l6:=r6.lt
 have s3:=hb3.size
 obtain⟨AM,cM,rfl,hcM,hciM,hnM⟩:=Qq ownM
 have hoM:=QEj ownM
 have r33:=r3.below hb3 r3.lt
 have r63:=r6.below hb3 r6.lt
 have hB3:Below W.heap.size W w3:=hb2.trans (hb3.mono hb2.size)
 refine qE [] (Many.begin w3) fun w4 k4=>coR<|qR 1 [] k4 fun w5 k5=>wM (J3 (qU ((r33.below k5.touch.below r33.lt).cell 21)))<|qE [] k5 fun w6 k6=>qQ [] k6 fun w7 k7=>qQ [] k7 fun w8 k8=>qQ [] k8 fun w9 k9=>coS<|coB<|ZN (rsB (Q2 g (.slice A m.length c) (.slice A' p.length c')) which v W.heap.size (W.heap.size+1)) (RsI W.heap.size Bp w9 g which v m.length p.length X) (fun q=>201-q.x.got.length) (fun y=>⟨⟨[],m,p,[],0⟩,AM,cM,A',c',.slice none 0 0,.slice none 0 0,y⟩) ?_ ?_
 · have hb9:=k9.touch.below
   have hB9:Below W.heap.size W w9:=hB3.trans (hb9.mono hB3.size)
   exact⟨hX.symm,Nat.zero_le _,Below.refl _ _,(hciM.below hb9).more hb9.size,hnM,hcM,fun q e=>by have:=hoM q e;have:=hb9.size;omega,h4.below (hB9.mono hBp),h5,h6,World.ownsRow_nil ..,World.ownsRow_nil ..,fun q e=>⟨fun x=>(by cases x),fun x=>(by cases x)⟩,fun _ e=>(by cases e),hw.beg,Int.le_refl _,by simp,by simp,Nat.le_refl _,Nat.zero_le _⟩
 have hb9:=k9.touch.below
 have r39:=r33.below hb9 r33.lt
 have r69:=r63.below hb9 r63.lt
 have hB9:Below W.heap.size W w9:=hB3.trans (hb9.mono hB3.size)
 have s9:W.heap.size+1 < w9.heap.size:=r69.lt
 obtain⟨Z,hZ⟩:∃ Z,Z=w9:=⟨_,rfl⟩
 rw[←hZ] at r39 r69 hB9 s9 ⊢
 clear k1 k2 k4 k5 k6 k7 k8 k9 hb9 hZ
 rintro ⟨x,AM,cM,AP,cP,vg,vl,y⟩ W' ⟨hgo,hlen,hlow,hcat,hcnil,hccap,hoff,hpat,hpnil,hpcap,hgot,hlist,a1,a2,hok,hn0,hn7,hml,hpl,hll⟩
 dsimp only at hgo hlen hlow hcat hcnil hccap hoff hpat hpnil hpcap hgot hlist a1 a2 hok hn0 hn7 hml hpl hll
 have q3:=r39.below hlow r39.lt
 have q6:=r69.below hlow r69.lt
 have sW:=hlow.size
 obtain⟨Ag,cg,rfl,hcg,hbg,hng⟩:=QBm hgot
 refine coS<|qQ [] (Many.begin W') fun wa ka=>coI (decide ((x.got.length:Int) < 200)) (fun hlt=>JE<|eoT<|coB<|?_) fun hge=>coX<|X8<|X8<|QAe<|eoT ?_
 · have hlt:x.got.length < 200:=by have:(x.got.length:Int) < 200:=by simpa using hlt
                                   omega
   obtain⟨T,hT⟩:∃ T,T=Jp g which x.got:=⟨_,rfl⟩
   have KN:∀ W2,Below W'.heap.size W' W2→Calls Tryz.prog 29 #[JG g,.int .i64 which,.slice Ag x.got.length cg] W2 fun e w'=>e=.returned T.v∧Below W2.heap.size W2 w':=fun W2 hb=>by
    rw[hT]
    exact QJQ g hg which Ag cg x.got hcg hok.got (by omega) W2 ((hbg.below hb).more hb.size)
   obtain⟨c0,s,d⟩:=T
   have hc1:(Jp g which x.got).c=c0:=by rw[←hT]
   have hs1:(Jp g which x.got).g=s:=by rw[←hT]
   have hd1:(Jp g which x.got).b=d:=by rw[←hT]
   refine coR<|qR 1 [] ka fun wb kb=>wM (J3 (ldR (QFs (q3.below kb.touch.below q3.lt))))<|qR 2 [] kb fun wc kc=>qC (V:=.tuple #[cyV c0,JG s,.bool d]) (KN wc kc.touch.below) kc fun wd kd=>qE [0,1] (Many.begin wd) fun we ke=>coS<|qQ [] ke fun wf kf=>?_
   have hbd:=kd.touch.below
   have hbf:=kf.touch.below
   have hf:Below W'.heap.size W' wf:=hbd.trans (hbf.mono hbd.size)
   have rY:Row wf wd.heap.size 54 (cyC c0):=kf.row 0 (cyC c0).toList (by kernel_rfl)
   have rS:Row wf (wd.heap.size+1) 24 (JH s):=kf.row 1 (JH s).toList (by kernel_rfl)
   have q6f:=q6.below hf q6.lt
   have lY:=rY.lt
   have sd:=hbd.size
   have sf:=hf.size
   have l6:=q6.lt
   cases hd:d with
   | true =>
     have hx:=QIb hgo (.inl (hd1.trans hd))
     obtain⟨Al,cl,rfl,hcl,-,-⟩:=qV hlist
     refine coT<|coR<|wM (J3 (ldR rS.range))<|qR 5 [] (Many.begin wf) fun wg kg=>?_
     have hbg':=kg.touch.below
     have q6g:=q6f.below hbg' q6f.lt
     refine qE [0] (Many.start q6g) fun wh kh=>JJ<|QF<|Zq<|QF<|Zq<|QF ?_
     have qh:Kept (fun b=>b=W.heap.size+1) wg wh:=(Kept.of_touch kh.touch).mono fun b _ e=>List.mem_singleton.1 e
     have hg2:Below W'.heap.size W' wg:=hf.trans (hbg'.mono hf.size)
     have rR:Row wh (W.heap.size+1) 34 (JQ s (.slice AM (mkS x.m).length cM) (.slice AP x.p.length cP)):=kh.row 0 (JQ s (.slice AM (mkS x.m).length cM) (.slice AP x.p.length cP)).toList (by kernel_rfl)
     have eg:QLR g which X=s:=by
      unfold QLR
      rw[←hx,if_pos hlt,hs1]
     rw[←hx] at eg ⊢
     rw[eg]
     have low2:Below W.heap.size W wg:=hB9.trans ((hlow.trans (hg2.mono hlow.size)).mono hB9.size)
     have ownl:=qh.own (own_below hlist hg2) fun b e y=>by have:=(hlist.lt b e).1;have y:b=W.heap.size+1:=y;omega
     obtain⟨Al2,cl2,e2,hcl2,hcy2,hnl2⟩:=qV ownl
     injection e2 with e2 e3 e4
     subst e2 e4
     refine QUR rR ⟨_,Al,cl,rfl,⟨AM,cM,AP,cP,rfl,?_,hcnil,?_,?_,hpnil,hpcap,fun q e=>by have:=(hoff q e).1;omega⟩,hcy2,hnl2,hcl2,qh.low low2 low2.size fun b e=>by have e:b=W.heap.size+1:=e;omega⟩
     · exact (((hcat.below hg2).more hg2.size).kept qh (Nat.le_refl _) fun q e y=>by have:=(hoff q e).1;have y:q.block=W.heap.size+1:=y;omega).more qh.size
     · exact hccap
     · exact (((hpat.below (hg2.mono (by omega))).keep fun b hb=>qh.block b (by have:=low2.size;omega) fun y=>by have y:b=W.heap.size+1:=y;omega))
   | false =>
     have hdf:(Jp g which x.got).b=false:=hd1.trans hd
     have hk:=QWM g which x.got hdf
     have ht:=QPE g which x.got hdf
     have hcb:=(hA g which x.got hg hok.got).2 hdf
     have hgn:=QL6 hgo hdf hlt
     rw[hc1] at hk ht hcb hgn
     have hB8:B8 (ZD c0 v x.m x.p):=QIf hok c0 hv
     -- behind the answer to the cycle,all the ways alike
     have base:∀ {wz:World} {A2:Option Addr} {m2:List (Int×Int)} {c2:Nat} {Ap2:Option Addr} {p2:List Int} {cp2:Nat} {c':Cy} {b:Int},Below W'.heap.size W' wz→Row wz wd.heap.size 54 (cyC c')→c'.kind=c0.kind→(c0.kind≠7→c'=Zp c0 b)→b=ZD c0 v x.m x.p→m2=X3 c0 x.m→p2=Zy c0 x.p →
      (A2=AM∧m2=x.m∧c2=cM)→(BytesIn wz Bp Ap2 p2∧(Ap2=none→cp2=0)∧p2.length≤cp2)→TailF W.heap.size Bp W' wz c0 v x (.slice Ag x.got.length cg) vl wd.heap.size b c' A2 m2 c2 Ap2 p2 cp2:=fun hb r1 r2 r3 r4 r5 r6 ⟨e1,e2,e3⟩ ⟨f1,f2,f3⟩=>by
      subst e1 e2 e3
      exact⟨r1,r2,r3,r4,r5,r6,hb,(hcat.below hb).more hb.size,hcnil,hccap,fun q e=>⟨(hoff q e).1,Nat.lt_of_lt_of_le (hoff q e).2 hb.size⟩,fun q e=>by have:=(hoff q e).2;omega,a1,f1,f2,f3⟩
     have pat2:∀ {wz:World},Below W'.heap.size W' wz→BytesIn wz Bp AP x.p:=fun hb=>hpat.below (hb.mono (by have:=hB9.size;omega))
     refine coF<|JE<|eoT<|coR<|qR 3 [0] kf fun wg kg=>kBj 45 (.int .i64 x.n) (.int .i64 c0.t) (.int .i64 (x.n+c0.t)) (egI _ _ _ _ _) (QIH _ _ (by omega) (by omega))<|qE [] kg fun wh kh=>qQ [] kh fun wi ki=>coS<|qQ [0] ki fun wj kj=>coB<|coS<|qQ [] kj fun wk kk=>coI (c0.kind==1) (fun h1=>JE<|eoT<|coJ (c0.kind==1) (fun e=>by rw[h1] at e;cases e) fun _=>?k1) fun h1=>coZ<|qF [] kk fun wk kk=>eoT<|coI (c0.kind==2) (fun h2=>?k2) fun h2=>qQ [] kk fun wl kl=>coI (c0.kind==4) (fun h4=>?k4) fun h4=>qQ [] kl fun wm km=>coI (c0.kind==6) (fun h6=>?k6) fun h6=>qQ [] km fun wn kn=>coI (c0.kind==3) (fun h3=>?k3) fun h3=>JE<|eoB<|eoT ?k5
     case' k1 =>
      have h1:c0.kind=1:=by simpa using h1
      refine coR<|qR 3 [0] kk fun wl kl=>?_
      have bl:Below W'.heap.size W' wl:=hbd.trans (kl.touch.below.mono hbd.size)
      have KG:=QAG AM cM (mkS x.m) c0.addr (by have:=QB7 x.m;omega) wl ((hcat.below bl).more bl.size)
      rw[QCZ] at KG
      refine qC KG kl fun wm km=>qE [] km fun wn kn=>coZ<|qF [0] kn fun wz kz=>eoB<|eoT ?_
      have bz:Below W'.heap.size W' wz:=hbd.trans (kz.touch.below.mono hbd.size)
      have hT:=base (c':={ c0 with data:=Ql x.m c0.addr }) (b:=Ql x.m c0.addr) bz (kz.row 0 (cyC { c0 with data:=Ql x.m c0.addr }).toList (by kernel_rfl)) rfl (fun _=>by unfold Zp;rw[if_neg (by omega)]) (by unfold ZD;rw[if_pos (.inl h1)]) (m2:=x.m) (by unfold X3;rw[if_neg (by omega)]) (p2:=x.p) (by unfold Zy;rw[if_neg (by omega)]) ⟨rfl,rfl,rfl⟩ ⟨pat2 bz,hpnil,hpcap⟩
      refine Zg (rsT (Q2 g (.slice A m.length c) (.slice A' p.length c')) which v W.heap.size (W.heap.size+1) (x.n+c0.t) AM x.m cM AP x.p cP (.slice Ag x.got.length cg) vl wd.heap.size (Ql x.m c0.addr)) fun sl=>?_
     case' k2 =>
      have h2:c0.kind=2:=by simpa using h2
      refine coR<|qR 3 [0] kk fun wl kl=>?_
      have bl:Below W'.heap.size W' wl:=hbd.trans (kl.touch.below.mono hbd.size)
      have KG:=QAG AM cM (mkS x.m) c0.addr (by have:=QB7 x.m;omega) wl ((hcat.below bl).more bl.size)
      rw[QCZ] at KG
      refine qC KG kl fun wm km=>qE [] km fun wn kn=>coZ<|qF [0] kn fun wz kz=>eoB<|eoT ?_
      have bz:Below W'.heap.size W' wz:=hbd.trans (kz.touch.below.mono hbd.size)
      have hT:=base (c':={ c0 with data:=Ql x.m c0.addr }) (b:=Ql x.m c0.addr) bz (kz.row 0 (cyC { c0 with data:=Ql x.m c0.addr }).toList (by kernel_rfl)) rfl (fun _=>by unfold Zp;rw[if_neg (by omega)]) (by unfold ZD;rw[if_pos (.inr h2)]) (m2:=x.m) (by unfold X3;rw[if_neg (by omega)]) (p2:=x.p) (by unfold Zy;rw[if_neg (by omega)]) ⟨rfl,rfl,rfl⟩ ⟨pat2 bz,hpnil,hpcap⟩
      refine Zg (rsT (Q2 g (.slice A m.length c) (.slice A' p.length c')) which v W.heap.size (W.heap.size+1) (x.n+c0.t) AM x.m cM AP x.p cP (.slice Ag x.got.length cg) vl wd.heap.size (Ql x.m c0.addr)) fun sl=>?_
     case' k4 =>
      have h4:c0.kind=4:=by simpa using h4
      refine qQ [] kl fun wm km=>coS<|qQ [] km fun wn kn=>?_
      cases hxp:x.p
     case' k4.nil =>
      refine coI (decide ((x.p.length:Int) > 0)) (fun e=>absurd e (by simp[hxp])) fun _=>JE<|eoT<|coZ<|qF [0] kn fun wz kz=>eoB<|eoT ?_
      have bz:Below W'.heap.size W' wz:=hbd.trans (kz.touch.below.mono hbd.size)
      have hT:=base (c':={ c0 with data:=255 }) (b:=255) bz (kz.row 0 (cyC { c0 with data:=255 }).toList (by kernel_rfl)) rfl (fun _=>by unfold Zp;rw[if_neg (by omega)]) (by unfold ZD;rw[if_neg (by omega),if_pos h4,hxp];rfl) (m2:=x.m) (by unfold X3;rw[if_neg (by omega)]) (p2:=x.p) (by unfold Zy;rw[if_pos h4,hxp];rfl) ⟨rfl,rfl,rfl⟩ ⟨pat2 bz,hpnil,hpcap⟩
      refine Zg (rsT (Q2 g (.slice A m.length c) (.slice A' p.length c')) which v W.heap.size (W.heap.size+1) (x.n+c0.t) AM x.m cM AP x.p cP (.slice Ag x.got.length cg) vl wd.heap.size 255) fun sl=>?_
     case' k4.cons q0 r0 =>
      have hpos:0 < x.p.length:=by rw[hxp];simp
      obtain⟨pa,rfl⟩:=hpat.addr (k:=0) hpos
      refine coI (decide ((x.p.length:Int) > 0)) (fun _=>?_) fun e=>absurd e (by simp[hxp])
      refine coR<|qR 1 [] kn fun wo ko=>?_
      have bo:Below W'.heap.size W' wo:=hbd.trans (ko.touch.below.mono hbd.size)
      refine wM (XF (ixB pa x.p.length cP 0 hpos _))<|wM (J3 (BytesIn.ld (pat2 bo) (k:=0) hpos))<|qE [] ko fun wp kp=>coZ<|qR 1 [] kp fun wq kq=>?_
      have sl1:=QEk (some pa) x.p.length cP hpos hpcap wq
      rw[←List.length_tail] at sl1
      refine wM (QDG sl1)<|qF [] kq fun wr kr=>eoT<|coZ<|qF [0] kr fun wz kz=>eoB<|eoT ?_
      have bz:Below W'.heap.size W' wz:=hbd.trans (kz.touch.below.mono hbd.size)
      have pd:=(pat2 bz).drop (k:=1) hpos hpcap
      rw[List.drop_one] at pd
      have e0:x.p[0]=x.p.headD 255:=by simp[hxp]
      have hT:=base (c':={ c0 with data:=x.p[0] }) (b:=x.p[0]) bz (kz.row 0 (cyC { c0 with data:=x.p[0] }).toList (by kernel_rfl)) rfl (fun _=>by unfold Zp;rw[if_neg (by omega)]) (by unfold ZD;rw[if_neg (by omega),if_pos h4,e0]) (m2:=x.m) (by unfold X3;rw[if_neg (by omega)]) (p2:=x.p.tail) (Ap2:=if cP=1 then some pa else (some pa).map (·.add 1)) (by unfold Zy;rw[if_pos h4]) ⟨rfl,rfl,rfl⟩ (cp2:=cP-1) ⟨pd,fun e=>(by split at e<;>cases e),by rw[List.length_tail];omega⟩
      refine Zg (rsT (Q2 g (.slice A m.length c) (.slice A' p.length c')) which v W.heap.size (W.heap.size+1) (x.n+c0.t) AM x.m cM (if cP=1 then some pa else (some pa).map (·.add 1)) x.p.tail (cP-1) (.slice Ag x.got.length cg) vl wd.heap.size x.p[0]) fun sl=>?_
     case' k6 =>
      have h6:c0.kind=6:=by simpa using h6
      refine qQ [] km fun wn kn=>coZ<|qF [0] kn fun wz kz=>eoB<|eoT ?_
      have bz:Below W'.heap.size W' wz:=hbd.trans (kz.touch.below.mono hbd.size)
      have hT:=base (c':={ c0 with data:=v }) (b:=v) bz (kz.row 0 (cyC { c0 with data:=v }).toList (by kernel_rfl)) rfl (fun _=>by unfold Zp;rw[if_neg (by omega)]) (by unfold ZD;rw[if_neg (by omega),if_neg (by omega),if_pos h6]) (m2:=x.m) (by unfold X3;rw[if_neg (by omega)]) (p2:=x.p) (by unfold Zy;rw[if_neg (by omega)]) ⟨rfl,rfl,rfl⟩ ⟨pat2 bz,hpnil,hpcap⟩
      refine Zg (rsT (Q2 g (.slice A m.length c) (.slice A' p.length c')) which v W.heap.size (W.heap.size+1) (x.n+c0.t) AM x.m cM AP x.p cP (.slice Ag x.got.length cg) vl wd.heap.size v) fun sl=>?_
     case' k3 =>
      have h3:c0.kind=3:=by simpa using h3
      refine coZ<|qR 5 [0,0] kn fun wo ko=>?_
      have bo:Below W'.heap.size W' wo:=hbd.trans (ko.touch.below.mono hbd.size)
      refine kX (QMv AM cM (mkS x.m) c0.addr c0.data (by have:=QB7 x.m;omega) (QBt hok.m) hcb.1 hcb.2 wo ((hcat.below bo).more bo.size) hcnil) fun e wp ⟨v5,he5,own5,hb5⟩=>⟨_,he5,?_⟩
      have e6:mkS (mkS x.m++[(c0.addr,c0.data)])=mkS (x.m++[(c0.addr,c0.data)]):=((QHM x.m).snoc _).mk
      rw[e6] at own5
      obtain⟨A5,c5,rfl,hc5,hci5,hn5⟩:=Qq own5
      have ho5:=QEj own5
      have rYo:Row wo wd.heap.size 54 (cyC c0):=ko.row 0 (cyC c0).toList (by kernel_rfl)
      have hgl:=hgot.lt
      have hll2:=hlist.lt
      refine qF [] (Many.begin wp) fun wz kz=>eoB<|eoT ?_
      have bp:=kz.touch.below
      have sz:=bp.size
      have so:=bo.size
      have s5:=hb5.size
      have bz:Below W'.heap.size W' wz:=(bo.trans (hb5.mono so)).trans (bp.mono (by omega))
      have hT:TailF W.heap.size Bp W' wz c0 v x (.slice Ag x.got.length cg) vl wd.heap.size 0 c0 A5 (x.m++[(c0.addr,c0.data)]) c5 AP x.p cP :=
       ⟨(rYo.below hb5 rYo.lt).below bp (by have:=rYo.lt;omega),rfl,fun _=>by unfold Zp;rw[if_pos (.inl h3)],by unfold ZD;rw[if_neg (by omega),if_neg (by omega),if_neg (by omega)],by unfold X3;rw[if_pos h3],by unfold Zy;rw[if_neg (by omega)],bz,(hci5.below bp).more sz,hn5,hc5,fun q e=>by have:=ho5 q e;omega,fun q e=>by have:=ho5 q e;have:=rYo.lt;omega,fun q e=>⟨fun x=>by have:=(hgl _ x).2;have:=ho5 q e;omega,fun x=>by have:=(hll2 _ x).2;have:=ho5 q e;omega⟩,pat2 bz,hpnil,hpcap⟩
      refine Zg (rsT (Q2 g (.slice A m.length c) (.slice A' p.length c')) which v W.heap.size (W.heap.size+1) (x.n+c0.t) A5 (x.m++[(c0.addr,c0.data)]) c5 AP x.p cP (.slice Ag x.got.length cg) vl wd.heap.size 0) fun sl=>?_
     case' k5 =>
      have h3:¬c0.kind=3:=by simpa using h3
      have h6:¬c0.kind=6:=by simpa using h6
      have h4:¬c0.kind=4:=by simpa using h4
      have h2:¬c0.kind=2:=by simpa using h2
      have h1:¬c0.kind=1:=by simpa using h1
      have bz:Below W'.heap.size W' wn:=hbd.trans (kn.touch.below.mono hbd.size)
      have hT:=base (c':=c0) (b:=0) bz (kn.row 0 (cyC c0).toList (by kernel_rfl)) rfl (fun h7=>by unfold Zp;rw[if_pos (.inr (by have:=hk.1;have:=hk.2;omega))]) (by unfold ZD;rw[if_neg (by omega),if_neg (by omega),if_neg (by omega)]) (m2:=x.m) (by unfold X3;rw[if_neg (by omega)]) (p2:=x.p) (by unfold Zy;rw[if_neg (by omega)]) ⟨rfl,rfl,rfl⟩ ⟨pat2 bz,hpnil,hpcap⟩
      refine Zg (rsT (Q2 g (.slice A m.length c) (.slice A' p.length c')) which v W.heap.size (W.heap.size+1) (x.n+c0.t) AM x.m cM AP x.p cP (.slice Ag x.got.length cg) vl wd.heap.size 0) fun sl=>?_
     all_goals
      have low:Below W'.heap.size W' hT.eW:=hT.low
      have sz:W'.heap.size≤hT.eW.heap.size:=low.size
      have hgl:=hgot.lt
      have hll2:=hlist.lt
      refine coS<|qQ [0] (Many.start hT.row) fun za qa=>?_
      have rYa:Row za wd.heap.size 54 (cyC hT.eY):=qa.row 0 (cyC hT.eY).toList (by kernel_rfl)
      have qza:Kept (fun q=>q=wd.heap.size) hT.eW za:=(Kept.of_touch qa.touch).mono fun q _ e=>List.mem_singleton.1 e
      by_cases h7:hT.eY.kind=7
      case' pos =>
       refine coI (hT.eY.kind != 7) (fun e=>absurd h7 (by simpa using e)) fun _=>JE<|eoT ?_
       have K:=qza.mono (U:=fun q=>vl.ownBlock=some q∨q=wd.heap.size) fun q _ e=>.inr e
       have hL:za.ownsRow Z.heap.size 54 4 vl x.l.length (QH x.l):=qza.own (own_below hlist low) fun q e y=>by have:=(hll2 q e).2;have y:q=wd.heap.size:=y;omega
       have hN:NewR hT.eW vl.ownBlock vl.ownBlock:=.inl rfl
       have hS:x.l=QCA c0 hT.eB x.l:=by unfold QCA;rw[if_pos (hT.kind▸h7)]
       have hlx:x.l.length≤x.got.length+1:=by omega
      case' neg =>
       refine coI (hT.eY.kind != 7) (fun _=>?_) fun e=>absurd (by simpa using e) h7
       obtain⟨Al,cl,rfl,hcl,-,-⟩:=qV hlist
       refine coZ<|qR 2 [0] qa fun zb qb=>wM (XD (QGc hT.eY zb)) ?_
       have qzb:Kept (fun q=>q=wd.heap.size) hT.eW zb:=(Kept.of_touch qb.touch).mono fun q _ e=>List.mem_singleton.1 e
       have hLb:=qzb.own (own_below hlist low) fun q e y=>by have:=(hll2 q e).2;have y:q=wd.heap.size:=y;omega
       have qA:Below zb.heap.size zb (zb.alloc (.cells (QH [hT.eY]).toArray 54)):=Below.alloc (Below.refl _ _) (Nat.le_refl _) _
       have szb:hT.eW.heap.size≤zb.heap.size:=qzb.size
       refine QOt (.tmp 85) (.tmp 87) 31 54 4 24 (cyV JM) Z.heap.size (.slice Al x.l.length cl) x.l.length (QH x.l) ⟨zb.heap.size,0,none⟩ 1 1 (QH [hT.eY]) (by have:=qA.size;omega) (own_below hLb qA) rfl (fun j u hu=>(Row.new zb 54 (QH [hT.eY]).toArray).values j u hu) (fun u hu=>QCx [hT.eY] u hu) (by omega) (by omega) fun vn zc own' gr hnew=>qF [] (Many.begin zc) fun za qa=>eoT ?_
       have e2:QH x.l++QH [hT.eY]=QH (x.l++[hT.eY]):=zg x.l [hT.eY]
       rw[e2] at own'
       have K:Kept (fun q=>(Value.slice Al x.l.length cl).ownBlock=some q∨q=wd.heap.size) hT.eW za:=((qzb.trans (Kept.of_below (S:=fun _=>False) qA) (U:=fun q=>(Value.slice Al x.l.length cl).ownBlock=some q∨q=wd.heap.size) (fun q e=>.inr e) fun _ _ e=>e.elim).trans (Kept.of_grown gr) (fun _ e=>e) fun q _ e=>.inl e).trans (Kept.of_below (S:=fun _=>False) qa.touch.below) (fun _ e=>e) fun _ _ e=>e.elim
       have hL:za.ownsRow Z.heap.size 54 4 vn (x.l++[hT.eY]).length (QH (x.l++[hT.eY])):=by rw[List.length_append];exact own_below own' qa.touch.below
       have hN:NewR hT.eW (Value.slice Al x.l.length cl).ownBlock vn.ownBlock:=by
        rcases hnew with e|⟨y,e,hy⟩
        · exact .inl e
        · exact .inr ⟨y,e,by have:=qA.size;omega⟩
       have hS:x.l++[hT.eY]=QCA c0 hT.eB x.l:=by
        have n7:¬c0.kind=7:=fun e=>h7 (hT.kind.trans e)
        unfold QCA
        rw[if_neg n7,←hT.told n7]
       have hlx:(x.l++[hT.eY]).length≤x.got.length+1:=by rw[List.length_append,List.length_singleton];omega
      all_goals
       have hx2:=hT.next hS
       have zK:hT.eW.heap.size≤za.heap.size:=K.size
       have gotK:=K.own (own_below hgot low) fun q e y=>by
        rcases y with y|y
        · exact a2 q e y
        · have:=(hgl q e).2;omega
       refine coZ<|qR 3 [] (Many.begin za) fun zy qy=>?_
       have bzy:=qy.touch.below
       have szy:=bzy.size
       have rN:Row zy za.heap.size 5 #[.int .u8 hT.eB]:=qy.row 0 [.int .u8 hT.eB] (by kernel_rfl)
       refine QOt (.tmp 89) (.tmp 91) 26 5 1 1 (.int .u8 0) Z.heap.size (.slice Ag x.got.length cg) x.got.length (bvs x.got) ⟨za.heap.size,0,none⟩ 1 1 [.int .u8 hT.eB] (by omega) (own_below gotK bzy) rfl rN.values (fun u hu=>by rw[List.mem_singleton.1 hu];rfl) (by omega) (by omega) fun vg2 zz own2 gr2 hn2=>qF [] (Many.begin zz) fun zw qw=>eoB<|Qk (fun y=>⟨⟨x.got++[hT.eB],hT.eM,hT.eL,lOf hS,x.n+c0.t⟩,hT.eA,hT.eC,hT.eP,hT.eCp,vg2,QKO hL,y⟩) ?_ (by show 201-(x.got++[hT.eB]).length < 201-x.got.length;rw[List.length_append,List.length_singleton];omega)
       have q2:=Kept.of_grown gr2
       have bw:=qw.touch.below
       have s2:=q2.size
       have sw:=bw.size
       have hLlt:=hL.lt
       have vxS:∀ q,(QKO hL).ownBlock=some q→Z.heap.size≤q∧q < za.heap.size:=hLlt
       have g2:∀ q,vg2.ownBlock=some q→(Value.slice Ag x.got.length cg).ownBlock=some q∨za.heap.size≤q:=fun q e=>by
        rcases hn2.ge e with e|e
        · exact .inl e
        · exact .inr (by omega)
       have x2:∀ q,(QKO hL).ownBlock=some q→(QKO hlist).ownBlock=some q∨hT.eW.heap.size≤q:=fun q e=>hN.ge e
       have KZ:Kept (fun q=>((QKO hlist).ownBlock=some q∨q=wd.heap.size)∨(Value.slice Ag x.got.length cg).ownBlock=some q) hT.eW zw:=((K.trans (Kept.of_below (S:=fun _=>False) bzy) (U:=fun q=>((QKO hlist).ownBlock=some q∨q=wd.heap.size)∨(Value.slice Ag x.got.length cg).ownBlock=some q) (fun q e=>.inl e) fun _ _ e=>e.elim).trans q2 (fun _ e=>e) fun q _ e=>.inr e).trans (Kept.of_below (S:=fun _=>False) bw) (fun _ e=>e) fun _ _ e=>e.elim
       have hZS:∀ q,(((QKO hlist).ownBlock=some q∨q=wd.heap.size)∨(Value.slice Ag x.got.length cg).ownBlock=some q)→Z.heap.size≤q:=fun q e=>by
        rcases e with (e|e)|e
        · exact (hll2 q e).1
        · omega
        · exact (hgl q e).1
       have sKZ:hT.eW.heap.size≤zw.heap.size:=KZ.size
       have eL:(x.got++[hT.eB]).length=x.got.length+1:=by rw[List.length_append,List.length_singleton]
       have hvg:∀ q,(QKO hL).ownBlock=some q→¬(Value.slice Ag x.got.length cg).ownBlock=some q:=fun q e c=>by
        rcases x2 q e with e|e
        · exact a2 q c e
        · have:=(hgl q c).2;omega
       refine⟨?_,by show (x.got++[hT.eB]).length≤200;omega,KZ.low (hlow.trans (low.mono hlow.size)) (by omega) hZS,?_,hT.cnil,hT.ccap,fun q e=>⟨(hT.off q e).1,Nat.lt_of_lt_of_le (hT.off q e).2 sKZ⟩,?_,hT.pnil,hT.pcap,?_,?_,fun q e=>⟨fun y=>?_,fun y=>?_⟩,fun q e y=>?_,?_,?_,?_,?_,?_,?_⟩
       · have:=hgn
         rw[←hx2] at this
         exact this
       · exact (hT.cat.kept KZ (Nat.le_refl _) fun q e y=>by
          rcases y with (y|y)|y
          · exact (hT.a1 q e).2 y
          · exact hT.offY q e y
          · exact (hT.a1 q e).1 y).more sKZ
       · exact hT.pat.keep fun q hq=>KZ.block q (by have:=hB9.size;omega) fun y=>by have:=hZS q y;have:=hB9.size;omega
       · show zw.ownsRow _ _ 1 vg2 (x.got++[hT.eB]).length (bvs (x.got++[hT.eB]))
         have e:bvs x.got++[.int .u8 hT.eB]=bvs (x.got++[hT.eB]):=by simp[bvs]
         rw[e] at own2
         rw[eL]
         exact own_below own2 bw
       · exact own_below (q2.own (own_below hL bzy) hvg) bw
       · have h1:q.block < hT.eW.heap.size:=(hT.off q e).2
         rcases g2 _ y with y|y
         · exact (hT.a1 q e).1 y
         · omega
       · have h1:q.block < hT.eW.heap.size:=(hT.off q e).2
         rcases x2 _ y with y|y
         · exact (hT.a1 q e).2 y
         · omega
       · rcases g2 _ e with e|e
         · exact hvg _ y e
         · have:=(vxS _ y).2;omega
       · show OkS ⟨x.got++[hT.eB],hT.eM,hT.eL,lOf hS,x.n+c0.t⟩
         rw[hx2]
         exact hok.next hcb hv
       · show 0≤x.n+c0.t
         omega
       · show x.n+c0.t≤7*((x.got++[hT.eB]).length:Int)
         rw[eL];push_cast;omega
       · show hT.eM.length≤m.length+(x.got++[hT.eB]).length
         have e:=hT.mem
         have h1:=QGL c0 x.m
         rw[←e] at h1
         rw[eL]
         exact Nat.le_trans h1 (by omega)
       · show hT.eL.length≤p.length
         have e:=hT.por
         have h1:=QKF c0 x.p
         rw[←e] at h1
         exact Nat.le_trans h1 hpl
       · show (lOf hS).length≤(x.got++[hT.eB]).length
         rw[eL]
         exact hlx
 · have hx:x.got.length=200:=by have:¬(x.got.length:Int) < 200:=by simpa using hge
                                omega
   have hxX:=QIb hgo (.inr hx)
   obtain⟨Al,cl,rfl,hcl,-,-⟩:=qV hlist
   refine coR<|qR 1 [] ka fun wb kb=>wM (J3 (ldR (QFs (q3.below kb.touch.below q3.lt))))<|qR 5 [] kb fun wg kg=>?_
   have hg2:=kg.touch.below
   have q6g:=q6.below hg2 q6.lt
   refine qE [0] (Many.start q6g) fun wh kh=>JJ ?_
   have qh:Kept (fun b=>b=W.heap.size+1) wg wh:=(Kept.of_touch kh.touch).mono fun b _ e=>List.mem_singleton.1 e
   have rR:Row wh (W.heap.size+1) 34 (JQ g (.slice AM (mkS x.m).length cM) (.slice AP x.p.length cP)):=kh.row 0 (JQ g (.slice AM (mkS x.m).length cM) (.slice AP x.p.length cP)).toList (by kernel_rfl)
   have eg:QLR g which X=g:=by
    unfold QLR
    rw[←hxX,if_neg (by omega)]
   rw[←hxX] at eg ⊢
   rw[eg]
   have low2:Below W.heap.size W wg:=hB9.trans ((hlow.trans (hg2.mono hlow.size)).mono hB9.size)
   have ownl:=qh.own (own_below hlist hg2) fun b e y=>by have:=(hlist.lt b e).1;have y:b=W.heap.size+1:=y;omega
   obtain⟨Al2,cl2,e2,hcl2,hcy2,hnl2⟩:=qV ownl
   injection e2 with e2 e3 e4
   subst e2 e4
   refine QUR rR ⟨_,Al,cl,rfl,⟨AM,cM,AP,cP,rfl,?_,hcnil,?_,?_,hpnil,hpcap,fun q e=>by have:=(hoff q e).1;omega⟩,hcy2,hnl2,hcl2,qh.low low2 low2.size fun b e=>by have e:b=W.heap.size+1:=e;omega⟩
   · exact (((hcat.below hg2).more hg2.size).kept qh (Nat.le_refl _) fun q e y=>by have:=(hoff q e).1;have y:q.block=W.heap.size+1:=y;omega).more qh.size
   · exact hccap
   · exact (((hpat.below (hg2.mono (by omega))).keep fun b hb=>qh.block b (by have:=low2.size;omega) fun y=>by have y:b=W.heap.size+1:=y;omega))
section
open Go.ChangeShapes Go.WideShapes Go.ChangeAt Go.RowKit Go.Deep
theorem QUL {α:Type}(l:List α)(h:l.length=20):∃ a0 a1 a2 a3 a4 a5 a6 a7 a8 a9 a10 a11 a12 a13 a14 a15 a16 a17 a18 a19,l=[a0,a1,a2,a3,a4,a5,a6,a7,a8,a9,a10,a11,a12,a13,a14,a15,a16,a17,a18,a19]:=by
 match l,h with
 | [a0,a1,a2,a3,a4,a5,a6,a7,a8,a9,a10,a11,a12,a13,a14,a15,a16,a17,a18,a19],_=>exact⟨a0,a1,a2,a3,a4,a5,a6,a7,a8,a9,a10,a11,a12,a13,a14,a15,a16,a17,a18,a19,rfl⟩
theorem QLq {H:Type} {enc:TypeId×Value→H} {P:Program} {w:World} {base:Nat} {sp:Nat→Bool} {held:Bool} {t:TypeId} {f0 f1 f2 f3 f4 f5 f6 f7 f8 f9 f10 f11 f12 f13 f14 f15 f16 f17 f18 f19:Field} {l:List Value} {fuel:Nat} {x:DataW H×List MemPlace}
 (hs:P.underlying t=some (.struct #[f0,f1,f2,f3,f4,f5,f6,f7,f8,f9,f10,f11,f12,f13,f14,f15,f16,f17,f18,f19]))(hone:oneCellFields P #[f0,f1,f2,f3,f4,f5,f6,f7,f8,f9,f10,f11,f12,f13,f14,f15,f16,f17,f18,f19]=true)(hC:P.cellsOf t=20)
 (u0:P.underlying f0.type=some (.int .u16))(u1:P.underlying f1.type=some (.int .u16))(u2:P.underlying f2.type=some (.int .u16))(u3:P.underlying f3.type=some (.int .u16))(u4:P.underlying f4.type=some (.int .u16))(u5:P.underlying f5.type=some (.int .u16))(u6:P.underlying f6.type=some (.int .u16))(u7:P.underlying f7.type=some (.int .u16))(u8:P.underlying f8.type=some (.int .u16))(u9:P.underlying f9.type=some (.int .u16))(u10:P.underlying f10.type=some (.int .u16))(u11:P.underlying f11.type=some (.int .u16))(u12:P.underlying f12.type=some (.int .u16))(u13:P.underlying f13.type=some (.int .u8))(u14:P.underlying f14.type=some (.int .u8))(u15:P.underlying f15.type=some .bool)(u16:P.underlying f16.type=some .bool)(u17:P.underlying f17.type=some .bool)(u18:P.underlying f18.type=some .bool)(u19:P.underlying f19.type=some (.int .i64))
 (hf:DataW.trod enc P w base sp held fuel t l=some x):∃ g:Rg,l=(JH g).toList∧RgB g:=by
 obtain⟨xs,n,-,-,hsz,hlen,hg⟩:=DataW.trod_struct hs hf
 rw[hC] at hsz
 have hlen:xs.length=20:=hlen
 have cell:∀ (k:Nat) (f:Field),#[f0,f1,f2,f3,f4,f5,f6,f7,f8,f9,f10,f11,f12,f13,f14,f15,f16,f17,f18,f19][k]?=some f→∃ u z,l[k]?=some u∧DataW.trod enc P w base sp held n f.type [u]=some z:=by
  intro k f hk
  obtain⟨ho,h1⟩:=hone_of hone k f hk
  have hkl:k < 20:=(Array.getElem?_eq_some_iff.1 hk).1
  have h2:=hg k f hk
  rw[ho,h1] at h2
  have e1:(l.drop k).take 1=[l[k]'(by omega)]:=by
   rw[List.drop_eq_getElem_cons (by omega)]
   rfl
  rw[e1,List.getElem?_eq_getElem (by omega)] at h2
  exact⟨_,_,List.getElem?_eq_getElem (by omega),h2⟩
 have one:∀ (k:Nat) (f:Field) (K:IntKind),#[f0,f1,f2,f3,f4,f5,f6,f7,f8,f9,f10,f11,f12,f13,f14,f15,f16,f17,f18,f19][k]?=some f→P.underlying f.type=some (.int K)→∃ z,l[k]?=some (.int K z)∧(Lit.int K z).wf=true:=by
  intro k f K hk hu
  obtain⟨u,z,hc,h2⟩:=cell k f hk
  obtain⟨z,e2,-,hw⟩:=DataW.trod_int hu h2
  injection e2 with e3
  exact⟨z,by rw[hc,e3],hw⟩
 have QLd:∀ (k:Nat) (f:Field),#[f0,f1,f2,f3,f4,f5,f6,f7,f8,f9,f10,f11,f12,f13,f14,f15,f16,f17,f18,f19][k]?=some f→P.underlying f.type=some .bool→∃ z,l[k]?=some (.bool z):=by
  intro k f hk hu
  obtain⟨u,z,hc,h2⟩:=cell k f hk
  obtain⟨z,e2,-⟩:=DataW.trod_bool hu h2
  injection e2 with e3
  exact⟨z,by rw[hc,e3]⟩
 clear hg hlen hf hone
 obtain⟨z0,e0,w0⟩:=one 0 f0 .u16 rfl u0
 have b0:=bounds_u16 w0
 obtain⟨z1,e1,w1⟩:=one 1 f1 .u16 rfl u1
 have b1:=bounds_u16 w1
 obtain⟨z2,e2,w2⟩:=one 2 f2 .u16 rfl u2
 have b2:=bounds_u16 w2
 obtain⟨z3,e3,w3⟩:=one 3 f3 .u16 rfl u3
 have b3:=bounds_u16 w3
 obtain⟨z4,e4,w4⟩:=one 4 f4 .u16 rfl u4
 have b4:=bounds_u16 w4
 obtain⟨z5,e5,w5⟩:=one 5 f5 .u16 rfl u5
 have b5:=bounds_u16 w5
 obtain⟨z6,e6,w6⟩:=one 6 f6 .u16 rfl u6
 have b6:=bounds_u16 w6
 obtain⟨z7,e7,w7⟩:=one 7 f7 .u16 rfl u7
 have b7:=bounds_u16 w7
 obtain⟨z8,e8,w8⟩:=one 8 f8 .u16 rfl u8
 have b8:=bounds_u16 w8
 obtain⟨z9,e9,w9⟩:=one 9 f9 .u16 rfl u9
 have b9:=bounds_u16 w9
 obtain⟨z10,e10,w10⟩:=one 10 f10 .u16 rfl u10
 have b10:=bounds_u16 w10
 obtain⟨z11,e11,w11⟩:=one 11 f11 .u16 rfl u11
 have b11:=bounds_u16 w11
 obtain⟨z12,e12,w12⟩:=one 12 f12 .u16 rfl u12
 have b12:=bounds_u16 w12
 obtain⟨z13,e13,w13⟩:=one 13 f13 .u8 rfl u13
 have b13:=bounds_u8 w13
 obtain⟨z14,e14,w14⟩:=one 14 f14 .u8 rfl u14
 have b14:=bounds_u8 w14
 obtain⟨z15,e15⟩:=QLd 15 f15 rfl u15
 obtain⟨z16,e16⟩:=QLd 16 f16 rfl u16
 obtain⟨z17,e17⟩:=QLd 17 f17 rfl u17
 obtain⟨z18,e18⟩:=QLd 18 f18 rfl u18
 obtain⟨z19,e19,w19⟩:=one 19 f19 .i64 rfl u19
 have b19:=bounds_i64 w19
 clear one QLd cell
 refine⟨⟨z0,z1,z2,z3,z4,z5,z6,z7,z8,z9,z10,z11,z12,z13,z14,z15,z16,z17,z18,z19⟩,?_,⟨b0,b1,b2,b3,b4,b5,b6,b7,b8,b9,b10,b11,b12,b13,b14,b19⟩⟩
 obtain⟨a0,a1,a2,a3,a4,a5,a6,a7,a8,a9,a10,a11,a12,a13,a14,a15,a16,a17,a18,a19,rfl⟩:=QUL l hsz
 simp only[List.getElem?_cons_zero,List.getElem?_cons_succ,Option.some.injEq] at e0 e1 e2 e3 e4 e5 e6 e7 e8 e9 e10 e11 e12 e13 e14 e15 e16 e17 e18 e19
 rw[e0,e1,e2,e3,e4,e5,e6,e7,e8,e9,e10,e11,e12,e13,e14,e15,e16,e17,e18,e19]
end
section
open Go.ChangeShapes Go.WideShapes Go.ChangeAt Go.RowKit Go.Deep
theorem QKJ {H:Type} {enc:TypeId×Value→H} {P:Program} {w:World} {base:Nat} {sp:Nat→Bool} {held:Bool} {t e:TypeId} {f0 f1:Field} {u:Value} {fuel:Nat} {x:DataW H×List MemPlace}
 (ht:P.underlying t=some (.slice e))(he:P.underlying e=some (.struct #[f0,f1]))(hone:oneCellFields P #[f0,f1]=true)(ce:P.cellsOf e=2)
 (u0:P.underlying f0.type=some (.int .u16))(u1:P.underlying f1.type=some (.int .u8))(hf:DataW.trod enc P w base sp held fuel t [u]=some x) :
 ∃ (A:Option Addr) (cap:Nat) (xs:List (Int×Int)),u=.slice A xs.length cap∧xs.length≤cap∧cap≤maxLen∧QL xs∧CellsIn w w.heap.size A xs∧(A=none→cap=0):=by
 obtain⟨o0,c0⟩:=hone_of hone 0 f0 rfl
 obtain⟨o1,c1⟩:=hone_of hone 1 f1 rfl
 rcases open_slice_pairs ht he ce o0 o1 c0 c1 hf with ⟨e1,-⟩|⟨ad,len',cap',m,n,V0,V1,D0,D1,P0,P1,e1,hb,hle,hm,hmm,-,hx⟩
 · have e2:u=.slice none 0 0:=by simpa using e1
   exact⟨none,0,[],e2,Nat.le_refl _,Nat.zero_le _,fun x hx=>by simp at hx,CellsIn.nil _ _ _,fun _=>rfl⟩
 · have e2:u=.slice (some ad) len' cap':=by simpa using e1
   have hlm:len'≤m:=by rw[hmm];split<;>omega
   have each:∀ i,i < m→∃ q:Int×Int,V0 i=.int .u16 q.1∧V1 i=.int .u8 q.2∧0≤q.1∧q.1≤65535∧0≤q.2∧q.2≤255:=by
    intro i hi
    obtain⟨-,-,h0,h1⟩:=hx i hi
    obtain⟨z0,g0,-,w0⟩:=DataW.trod_int u0 h0
    obtain⟨z1,g1,-,w1⟩:=DataW.trod_int u1 h1
    have b0:=bounds_u16 w0
    have b1:=bounds_u8 w1
    simp at g0 g1
    exact⟨(z0,z1),g0,g1,by omega,by omega,by omega,by omega⟩
   obtain⟨q,hq⟩:=choose_lt each
   refine⟨some ad,cap',(List.range len').map q,by rw[List.length_map,List.length_range];exact e2,by simpa using hle,hm,fun c hc=>?_,fun j c hc=>?_,fun h=>by cases h⟩
   · obtain⟨i,hi,rfl⟩:=List.mem_map.1 hc
     have:=hq i (Nat.lt_of_lt_of_le (List.mem_range.1 hi) hlm)
     exact this.2.2
   · have hj:j < len':=by
      have:=(List.getElem?_eq_some_iff.1 hc).1
      simpa using this
     have hcq:c=q j:=by
      rw[List.getElem?_map,List.getElem?_range hj] at hc
      exact (Option.some.inj hc).symm
     obtain⟨h0,h1,-⟩:=hx j (by omega)
     obtain⟨g0,g1,-⟩:=hq j (by omega)
     rw[g0] at h0
     rw[g1] at h1
     rw[hcq]
     refine⟨ad,rfl,?_,h0,by rw[QBh];exact h1⟩
     have:=World.block_lt_of_cell? _ _ h0
     rw[add_block] at this
     exact this
end
section
open Go.ChangeShapes Go.WideShapes Go.ChangeAt Go.RowKit
theorem QI5 {H:Type} {enc:TypeId×Value→H} {P:Program} {w:World} {base:Nat} {sp:Nat→Bool} {held:Bool} {t e:TypeId} {u:Value} {fuel:Nat} {x:DataW H×List MemPlace}
 (ht:P.underlying t=some (.slice e))(he:P.underlying e=some (.int .u8))(hc:P.cellsOf e=1)(hf:DataW.trod enc P w base sp held fuel t [u]=some x) :
 ∃ (A:Option Addr) (cap:Nat) (xs:List Int),u=.slice A xs.length cap∧xs.length≤cap∧cap≤maxLen∧Bytes8 xs∧BytesIn w w.heap.size A xs∧(A=none→cap=0):=by
 rcases open_ints ht he hc hf with ⟨e1,-⟩|⟨ad,len',cap',zs,e1,hb,hle,hm,hz,-,hcell,hwf⟩
 · have e2:u=.slice none 0 0:=by simpa using e1
   refine⟨none,0,[],e2,Nat.le_refl _,Nat.zero_le _,fun x hx=>by simp at hx,BytesIn.nil _ _ _,fun _=>rfl⟩
 · have e2:u=.slice (some ad) len' cap':=by simpa using e1
   have hzl:len'≤zs.length:=by rw[hz];split<;>omega
   have htl:(zs.take len').length=len':=by rw[List.length_take];omega
   refine⟨some ad,cap',zs.take len',by rw[htl];exact e2,by omega,hm,fun x hx=>?_,fun j x hx=>?_,fun h=>by cases h⟩
   · have hw:=hwf x (List.mem_of_mem_take hx)
     have:=bounds_u8 hw
     exact⟨by omega,by omega⟩
   · rw[List.getElem?_take] at hx
     split at hx
     · rename_i hj
       have hj2:j < zs.length:=by omega
       have hce:=hcell j hj2
       rw[List.getD_eq_getElem?_getD,hx] at hce
       refine⟨ad,rfl,?_,hce⟩
       have:=World.block_lt_of_cell? _ _ hce
       rw[add_block] at this
       exact this
     · cases hx
end
section
open Go.ChangeShapes Go.WideShapes Go.ChangeAt Go.RowKit Go.Deep
theorem QF8 {H:Type} {enc:TypeId×Value→H} {P:Program} {w:World} {r:Reach} {b0 base:Nat} {sp:Nat→Bool} {held:Bool} {t ec eb:TypeId} {q0 q1 q2 g0 g1 f0 f1 f2 f3 f4 f5 f6 f7 f8 f9 f10 f11 f12 f13 f14 f15 f16 f17 f18 f19:Field} {v:Value} {d:DataW H} {ps:List MemPlace}
 (hs:P.underlying t=some (.struct #[q0,q1,q2]))(hq:(P.cellsOf t,q0.offset,q1.offset,q2.offset,P.cellsOf q0.type,P.cellsOf q1.type,P.cellsOf q2.type)=(22,0,20,21,20,1,1))
 (hr:P.underlying q0.type=some (.struct #[f0,f1,f2,f3,f4,f5,f6,f7,f8,f9,f10,f11,f12,f13,f14,f15,f16,f17,f18,f19]))(hone:oneCellFields P #[f0,f1,f2,f3,f4,f5,f6,f7,f8,f9,f10,f11,f12,f13,f14,f15,f16,f17,f18,f19]=true)
 (u0:P.underlying f0.type=some (.int .u16))(u1:P.underlying f1.type=some (.int .u16))(u2:P.underlying f2.type=some (.int .u16))(u3:P.underlying f3.type=some (.int .u16))(u4:P.underlying f4.type=some (.int .u16))(u5:P.underlying f5.type=some (.int .u16))(u6:P.underlying f6.type=some (.int .u16))(u7:P.underlying f7.type=some (.int .u16))(u8:P.underlying f8.type=some (.int .u16))(u9:P.underlying f9.type=some (.int .u16))(u10:P.underlying f10.type=some (.int .u16))(u11:P.underlying f11.type=some (.int .u16))(u12:P.underlying f12.type=some (.int .u16))(u13:P.underlying f13.type=some (.int .u8))(u14:P.underlying f14.type=some (.int .u8))(u15:P.underlying f15.type=some .bool)(u16:P.underlying f16.type=some .bool)(u17:P.underlying f17.type=some .bool)(u18:P.underlying f18.type=some .bool)(u19:P.underlying f19.type=some (.int .i64))
 (hc:P.underlying q1.type=some (.slice ec))(he:P.underlying ec=some (.struct #[g0,g1]))(honec:oneCellFields P #[g0,g1]=true)(ce:P.cellsOf ec=2)(v0:P.underlying g0.type=some (.int .u16))(v1:P.underlying g1.type=some (.int .u8))
 (hb:P.underlying q2.type=some (.slice eb))(heb:P.underlying eb=some (.int .u8))(cb:P.cellsOf eb=1)
 (hv:Value.okWide P w r b0 t v)(h:DataW.Trod enc P w base sp held t v d ps) :
 ∃ (g:Rg) (A:Option Addr) (cap:Nat) (xs:List (Int×Int)) (A':Option Addr) (cap':Nat) (ys:List Int),v=Q2 g (.slice A xs.length cap) (.slice A' ys.length cap')∧RgB g∧(xs.length≤cap∧cap≤maxLen∧QL xs∧CellsIn w w.heap.size A xs∧(A=none→cap=0))∧(ys.length≤cap'∧cap'≤maxLen∧Bytes8 ys∧BytesIn w w.heap.size A' ys∧(A'=none→cap'=0)):=by
 simp only[Prod.mk.injEq] at hq
 obtain⟨hC,o0,o1,o2,c0,c1,c2⟩:=hq
 obtain⟨cs,rfl,hsz⟩:=okWide_struct hs hv
 obtain⟨fuel,hf⟩:=h
 obtain⟨xs,n,-,-,hl,hlen,hg⟩:=DataW.trod_struct hs hf
 rw[hC] at hsz hl
 have hlen:xs.length=3:=hlen
 obtain⟨l,hcs⟩:∃ l,l=cs.toList:=⟨_,rfl⟩
 have hcl:(Value.agg cs).cells.toList=l:=by rw[hcs];rfl
 rw[hcl] at hg hl
 have t0:=hg 0 q0 rfl
 have t1:=hg 1 q1 rfl
 have t2:=hg 2 q2 rfl
 rw[o0,c0,List.getElem?_eq_getElem (by omega)] at t0
 rw[o1,c1,List.getElem?_eq_getElem (by omega),show (l.drop 20).take 1=[l[20]'(by omega)] by rw[List.drop_eq_getElem_cons (by omega)];rfl] at t1
 rw[o2,c2,List.getElem?_eq_getElem (by omega),show (l.drop 21).take 1=[l[21]'(by omega)] by rw[List.drop_eq_getElem_cons (by omega)];rfl] at t2
 obtain⟨g,e0,hgB⟩:=QLq hr hone c0 u0 u1 u2 u3 u4 u5 u6 u7 u8 u9 u10 u11 u12 u13 u14 u15 u16 u17 u18 u19 t0
 obtain⟨A,cap,ms,e1,hm⟩:=QKJ hc he honec ce v0 v1 t1
 obtain⟨A',cap',ys,e2,hy⟩:=QI5 hb heb cb t2
 refine⟨g,A,cap,ms,A',cap',ys,?_,hgB,hm,hy⟩
 have e3:l=l.take 20++[l[20]'(by omega),l[21]'(by omega)]:=by
  conv=>lhs;rw[←List.take_append_drop 20 l]
  rw[List.drop_eq_getElem_cons (by omega),List.drop_eq_getElem_cons (by omega),List.drop_of_length_le (by omega)]
 have e4:l.take 20=(JH g).toList:=by simpa using e0
 rw[e4,e1,e2] at e3
 show Value.agg cs=.agg _
 rw[←Array.toArray_toList (xs:=cs),←hcs,e3]
 rfl
end
end Go.Proofs.YtkgaeamdhhceiaaGreatDoor
