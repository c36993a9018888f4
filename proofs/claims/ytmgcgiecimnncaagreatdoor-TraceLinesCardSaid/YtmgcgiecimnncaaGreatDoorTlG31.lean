/- Contracts and facts that the claim's proof wants (several texts in one). -/
import Derived.Test.YtmgcgiecimnncaaGreatDoorTlG30
namespace Go.Proofs.YtmgcgiecimnncaaGreatDoor
open Go.RowKit
set_option linter.unusedVariables false
set_option linter.unusedSimpArgs false
set_option maxRecDepth 20000
set_option maxHeartbeats 20000000
theorem QQO (pl d m k:Int)(hk:0≤k∧k≤7)(w:World):Calls Tryz.prog 44 #[opV 0 0 0 0 0 0,.int .i64 k] w fun e w'=>e=.returned (.string (sy pl d m (pick QL k)))∧Below w.heap.size w w':=by
 rw[QLb pl d m QL (by decide)]
 exact QMn k hk w
theorem QVZ (pl d m k:Int)(hk:0≤k∧k≤3)(w:World):Calls Tryz.prog 68 #[opV 0 0 0 0 0 0,.int .i64 k,.string ⟨#[115,112]⟩] w fun e w'=>e=.returned (.string (sy pl d m (pick QX k)))∧Below w.heap.size w w':=by
 rw[QLb pl d m QX (by decide)]
 exact QKl k hk w
theorem rIdx (pl d m:Int)(hd:B8 d)(w:World):Calls Tryz.prog 66 #[.int .i64 pl,.int .u8 d] w fun e w'=>e=.returned (.string (sy pl d m [259]))∧Below w.heap.size w w':=by
 rw[←QD1 pl d m 259]
 exact QEx pl d hd w
theorem QT9 (pl d m y:Int)(hy:0≤y∧y≤7)(w:World):Calls Tryz.prog 47 #[.int .i64 y,.int .i64 10,.int .i64 1] w fun e w'=>e=.returned (.string (sy pl d m (pick zl y)))∧Below w.heap.size w w':=by
 have e:(⟨(QBO 10 1 8 y []).toArray⟩:ByteArray)=sy pl d m (pick zl y):=by
  have:y=0∨y=1∨y=2∨y=3∨y=4∨y=5∨y=6∨y=7:=by omega
  rcases this with rfl|rfl|rfl|rfl|rfl|rfl|rfl|rfl<;>rfl
 have h:=qn y 1 (by omega) (by omega) (by decide) w
 rw[e] at h
 exact h
def bR (pl x z:Int):List Nat:=if pl=1 then pick QL z else if x≠1∧z≠6 then [259]++[44]++pick QL z else [259]
def bL:List (List Nat):=[[],[98,105,116,32],[114,101,115,32],[115,101,116,32]]
theorem QHv (pl x y z:Int):QBE pl x y z=if x=0 then pick ZW y++[32]++bR pl x z else pick bL x++pick zl y++[44]++bR pl x z:=rfl
def btB (X Y:Int)(R:Value)(x:zh):List Value:=[x.y 0,.int .i64 X,.int .i64 Y,x.y 3,x.y 4,x.y 5,x.y 6,x.y 7,x.y 8,R,x.y 10,x.y 11,x.y 12,x.y 13,x.y 14,x.y 15,x.y 16,x.y 17,x.y 18,x.y 19,x.y 20,x.y 21,x.y 22,x.y 23,x.y 24,x.y 25,x.y 26,x.y 27,x.y 28,x.y 29,x.y 30,x.y 31,x.y 32,x.y 33,x.y 34,x.y 35,x.y 36,x.y 37,x.y 38,x.y 39,x.y 40,x.y 41,x.y 42,x.y 43,x.y 44,x.y 45,x.y 46,x.y 47,x.y 48,x.y 49,x.y 50,x.y 51]
theorem QRI (pl d m:Int)(w:World):(Instr.buildSlice 42 4 #[(0,.string ⟨#[]⟩),(1,.string ⟨#[98,105,116,32]⟩),(2,.string ⟨#[114,101,115,32]⟩),(3,.string ⟨#[115,101,116,32]⟩)]).run Tryz.prog w=.ok (.slice (some ⟨w.heap.size,0,none⟩) 4 4) (w.alloc (.cells (sv pl d m bL).toArray 9)):=(bs4 _ _ _ _ w).trans (by kernel_rfl)
theorem QBV (pl c d m le sk x y z:Int)(hd:B8 d)(hx:0≤x∧x≤3)(hy:0≤y∧y≤7)(hz:0≤z∧z≤7)(W:World) :
 Calls Tryz.prog 41 #[opV pl c d m le sk,.int .i64 x,.int .i64 y,.int .i64 z] W fun e W'=>e=.returned (.string (sy pl d m (QBE pl x y z)))∧Below W.heap.size W W':=by
 have hG:=Jv QL (by decide) z
 have hS:=Jv ZW (by decide) y
 have hD:=Jv zl (by decide) y
 have hL:=Jv bL (by decide) x
 go_enter Tryz.func41,Tryz.ntmps41
 refine JA<|qQ [] (Many.begin W) fun w1 k1=>coR<|qR 2 [] k1 fun w2 k2=>qC (QQO pl d m z hz w2) k2 fun w3 k3=>qE [] k3 fun w4 k4=>coS<|qQ [0] k4 fun w5 k5=>coI (pl != 1) (fun e=>coR<|qR 4 [0,0] k5 fun w6 k6=>qC (rIdx pl d m hd w6) k6 fun w7 k7=>qE [] k7 fun w8 k8=>coR<|qR 3 [] k8 fun w9 k9 =>
  if hx1:x=1 then tell 23 (show (x != 1)=false by simp[hx1])<|qE [] k9 fun wa ka=>coF<|JC<|eoT ?k2
  else tell 23 (show (x != 1)=true by simpa using hx1)<|qR 2 [] k9 fun wa ka=>if hz6:z=6 then tell 25 (show (z != 6)=false by simp[hz6])<|qE [] ka fun wb kb=>coF<|JC<|eoT ?k3
  else tell 25 (show (z != 6)=true by simpa using hz6)<|qE [] ka fun wb kb=>coT<|coZ<|qR 1 [] kb fun wc kc=>wM (xSy pl d m [259] [44])<|qR 2 [] kc fun wd kd=>qC (QQO pl d m z hz wd) kd fun we ke=>wM (xSy pl d m ([259]++[44]) (pick QL z))<|qF [] ke fun wf kf=>eoT ?k4) fun e=>JC<|eoT ?k1
 case' k1 =>
  have hr:bR pl x z=pick QL z:=if_pos (by simpa using e)
  have hl:(pick QL z:List Nat).length≤20:=by omega
  have hB:=k5.touch.below
  refine XK (btB x y (.string (sy pl d m (pick QL z)))) fun sl=>?_
  generalize (pick QL z:List Nat)=r at hr hl ⊢
 case' k2 =>
  have hr:bR pl x z=[259]:=(if_neg (by simpa using e)).trans (if_neg fun h=>h.1 hx1)
  have hl:([259]:List Nat).length≤20:=by simp only[List.length_append,List.length_cons,List.length_nil];omega
  have hB:=ka.touch.below
  refine XK (btB x y (.string (sy pl d m ([259])))) fun sl=>?_
  generalize ([259]:List Nat)=r at hr hl ⊢
 case' k3 =>
  have hr:bR pl x z=[259]:=(if_neg (by simpa using e)).trans (if_neg fun h=>h.2 hz6)
  have hl:([259]:List Nat).length≤20:=by simp only[List.length_append,List.length_cons,List.length_nil];omega
  have hB:=kb.touch.below
  refine XK (btB x y (.string (sy pl d m ([259])))) fun sl=>?_
  generalize ([259]:List Nat)=r at hr hl ⊢
 case' k4 =>
  have hr:bR pl x z=[259]++[44]++pick QL z:=(if_neg (by simpa using e)).trans (if_pos ⟨hx1,hz6⟩)
  have hl:([259]++[44]++pick QL z:List Nat).length≤20:=by simp only[List.length_append,List.length_cons,List.length_nil];omega
  have hB:=kf.touch.below
  refine XK (btB x y (.string (sy pl d m ([259]++[44]++pick QL z)))) fun sl=>?_
  generalize ([259]++[44]++pick QL z:List Nat)=r at hr hl ⊢
 all_goals
  refine coS<|qQ [] (Many.begin _) fun wa ka=>coI (x==0) (fun h=>?_) fun h=>JC<|eoT ?_
  · have h:x=0:=by simpa using h
    exact coR<|qCn (QQo pl d m wa) ka fun wb kb=>qR 1 [] kb fun wc kc=>wM (Jm (ixL wa.heap.size 8 8 y (by omega) wc))<|wM (Jc (ldP (kc.row 0 (b:=wa.heap.size) (t:=9) (sv pl d m ZW) (by kernel_rfl)) y ⟨hy.1,by show y < 8;omega⟩))<|wM (xSy pl d m (pick ZW y) [32])<|qR 1 [] kc fun wd kd=>wM (xSy pl d m (pick ZW y++[32]) r) <|
     qE [] kd fun we ke=>JE<|Je<|JR (.string (sy pl d m (pick ZW y++[32]++r))) ⟨by rw[QHv,if_pos h,hr],bOn hB ke⟩
  · have h:¬x=0:=by simpa using h
    have fin:QBE pl x y z=pick bL x++pick zl y++[44]++r:=by rw[QHv,if_neg h,hr]
    have hx4:0≤x∧x < bL.length:=⟨hx.1,by show x < 4;omega⟩
    have ka:=ka.take 0 []
    refine qP 10 ka fun wb kb=>qM [1,4,8] kb<|QWI 0 5 (soX (V:=.slice (some ⟨wb.heap.size,0,none⟩) 4 4) (kb.allocO _) (X7 (QRI pl d m wb))<|poS (S':=Many _ _ ([]++[⟨wb.heap.size,9,(sv pl d m bL).toArray.toList.map some⟩])) (fun w h=>h.take 0 []) ?_) (soC (QT9 pl d m y hy wb) fun e wc ⟨he,hbc⟩=>⟨_,he,kb.below hbc,zO 0 (soX (V:=.slice (some ⟨wc.heap.size,0,none⟩) 4 4) ((kb.below hbc).allocO _) (X7 (QRI pl d m wc))<|poS (S':=Many _ _ ([]++[⟨wc.heap.size,9,(sv pl d m bL).toArray.toList.map some⟩])) (fun w h=>h.take 0 []) ?_)⟩)
    · have kc:=kb.alloc 9 (sv pl d m bL).toArray
      refine qT 2 kc (fun w' _=>Jm (ixL wb.heap.size 4 4 x (by omega) _))<|qT 3 kc (fun w' hS=>Jc (ldP (hS.row 0 (b:=wb.heap.size) (t:=9) (sv pl d m bL) (by kernel_rfl)) x hx4))<|qDc 5 (QT9 pl d m y hy _) kc fun wd kd=>?_
      exact qT 6 kd (fun w' _=>xSy pl d m (pick bL x) (pick zl y))<|qT 7 kd (fun w' _=>xSy pl d m (pick bL x++pick zl y) [44])<|qT 9 kd (fun w' _=>xSy pl d m (pick bL x++pick zl y++[44]) r)<|poE<|qE [] kd fun we ke=>JE<|JR (.string (sy pl d m (pick bL x++pick zl y++[44]++r))) ⟨by rw[fin],bOn hB (ke.take 0 [])⟩
    · have kc:=(kb.below hbc).alloc 9 (sv pl d m bL).toArray
      refine qT 2 kc (fun w' _=>Jm (ixL wc.heap.size 4 4 x (by omega) _))<|qT 3 kc (fun w' hS=>Jc (ldP (hS.row 0 (b:=wc.heap.size) (t:=9) (sv pl d m bL) (by kernel_rfl)) x hx4)) ?_
      exact qT 6 kc (fun w' _=>xSy pl d m (pick bL x) (pick zl y))<|qT 7 kc (fun w' _=>xSy pl d m (pick bL x++pick zl y) [44])<|qT 9 kc (fun w' _=>xSy pl d m (pick bL x++pick zl y++[44]) r)<|poE<|qE [] kc fun we ke=>JE<|JR (.string (sy pl d m (pick bL x++pick zl y++[44]++r))) ⟨by rw[fin],bOn hB (ke.take 0 [])⟩
def eA:List (List Nat):=[[108,100],[99,112],[105,110],[111,116]]
def eB:List (List Nat):=[[105],[100],[105,114],[100,114]]
def eC:List (List Nat):=[[115,98,99,32,104,108,44],[97,100,99,32,104,108,44]]
def eM4:List (List Nat):=[[48],[48],[49],[50]]
def QOh (b:Nat)(X Y Z P R:Int)(x:zh):List Value:=[x.y 0,pT b 0,x.y 2,.int .i64 X,.int .i64 Y,.int .i64 Z,.int .i64 P,.int .i64 R,x.y 8,x.y 9,x.y 10,x.y 11,x.y 12,x.y 13,x.y 14,x.y 15,x.y 16,x.y 17,x.y 18,x.y 19,x.y 20,x.y 21,x.y 22,x.y 23,x.y 24,x.y 25,x.y 26,x.y 27,x.y 28,x.y 29,x.y 30,x.y 31,x.y 32,x.y 33,x.y 34,x.y 35,x.y 36,x.y 37,x.y 38,x.y 39,x.y 40,x.y 41,x.y 42,x.y 43,x.y 44,x.y 45,x.y 46,x.y 47,x.y 48,x.y 49,x.y 50,x.y 51,x.y 52,x.y 53,x.y 54,x.y 55,x.y 56,x.y 57,x.y 58,x.y 59,x.y 60,x.y 61,x.y 62,x.y 63,x.y 64,x.y 65,x.y 66,x.y 67,x.y 68,x.y 69,x.y 70,x.y 71,x.y 72,x.y 73,x.y 74,x.y 75,x.y 76,x.y 77,x.y 78,x.y 79,x.y 80,x.y 81,x.y 82]
def QVn (Y:Int)(F:Value)(x:zh):List Value:=[x.y 0,x.y 1,.int .i64 Y,x.y 3,x.y 4,x.y 5,x.y 6,x.y 7,x.y 8,x.y 9,x.y 10,x.y 11,x.y 12,F,x.y 14,x.y 15,x.y 16,x.y 17,x.y 18,x.y 19,x.y 20,x.y 21,x.y 22,x.y 23,x.y 24,x.y 25,x.y 26,x.y 27,x.y 28,x.y 29,x.y 30,x.y 31,x.y 32,x.y 33,x.y 34,x.y 35,x.y 36,x.y 37,x.y 38,x.y 39,x.y 40,x.y 41,x.y 42,x.y 43,x.y 44,x.y 45,x.y 46,x.y 47,x.y 48,x.y 49,x.y 50,x.y 51,x.y 52,x.y 53,x.y 54,x.y 55,x.y 56,x.y 57,x.y 58,x.y 59,x.y 60,x.y 61,x.y 62,x.y 63,x.y 64,x.y 65,x.y 66,x.y 67,x.y 68,x.y 69,x.y 70,x.y 71,x.y 72,x.y 73,x.y 74,x.y 75,x.y 76,x.y 77,x.y 78,x.y 79,x.y 80,x.y 81,x.y 82,x.y 83,x.y 84,x.y 85,x.y 86,x.y 87,x.y 88,x.y 89,x.y 90,x.y 91,x.y 92,x.y 93,x.y 94,x.y 95,x.y 96,x.y 97,x.y 98,x.y 99,x.y 100,x.y 101,x.y 102,x.y 103,x.y 104,x.y 105,x.y 106,x.y 107]
def QVP (b:Nat)(X Y Z P R:Int)(x:zh):List Value:=[x.y 0,.int .i64 X,.int .i64 Y,.int .i64 Z,.int .i64 P,.int .i64 R,pT b 0,x.y 7,x.y 8,x.y 9,x.y 10,x.y 11,x.y 12,x.y 13,x.y 14,x.y 15,x.y 16,x.y 17,x.y 18,x.y 19,x.y 20,x.y 21,x.y 22,x.y 23,x.y 24,x.y 25,x.y 26,x.y 27,x.y 28,x.y 29,x.y 30,x.y 31,x.y 32,x.y 33,x.y 34,x.y 35,x.y 36,x.y 37,x.y 38,x.y 39,x.y 40,x.y 41,x.y 42,x.y 43,x.y 44,x.y 45,x.y 46,x.y 47,x.y 48,x.y 49,x.y 50,x.y 51,x.y 52,x.y 53,x.y 54,x.y 55,x.y 56,x.y 57,x.y 58,x.y 59,x.y 60,x.y 61,x.y 62,x.y 63,x.y 64,x.y 65,x.y 66,x.y 67,x.y 68,x.y 69,x.y 70,x.y 71,x.y 72,x.y 73,x.y 74,x.y 75,x.y 76,x.y 77,x.y 78,x.y 79,x.y 80,x.y 81,x.y 82,x.y 83,x.y 84,x.y 85,x.y 86,x.y 87,x.y 88,x.y 89,x.y 90,x.y 91,x.y 92,x.y 93,x.y 94,x.y 95,x.y 96,x.y 97,x.y 98,x.y 99,x.y 100,x.y 101,x.y 102,x.y 103,x.y 104,x.y 105,x.y 106,x.y 107]
theorem rem4 (y:Int)(h:0≤y)(w:World):(binOp .rem 3 (.int .i64 y) (.int .i64 4)).run Tryz.prog w=.ok (.int .i64 (y%4)) w:=by
 have e:Int.tmod y 4=y%4:=Int.tmod_eq_emod_of_nonneg h
 have e2:IntKind.i64.wrap (y%4)=y%4:=by rw[IntKind.wrap_i64];omega
 simp[go_sem,e,e2]
theorem QPY (pl c d m le sk x y z p q:Int)(h0:0≤m)(h1:m≤65535)(hx:0≤x∧x≤3)(hy:0≤y∧y≤7)(hz:0≤z∧z≤7)(hp:0≤p∧p≤3)(hq:0≤q∧q≤1)(W:World) :
 Calls Tryz.prog 42 #[opV pl c d m le sk,.int .i64 x,.int .i64 y,.int .i64 z,.int .i64 p,.int .i64 q] W fun e W'=>e=.returned (.string (sy pl d m (edT x y z p q)))∧Below W.heap.size W W':=by
 have hG:=Jv QL (by decide) y
 have hP:=Jv QX (by decide) p
 have hA:=Jv eA (by decide) z
 have hE:=Jv eB (by decide) (y-4)
 have hC:=Jv eC (by decide) q
 have hM:=Jv eM4 (by decide) (y%4)
 go_enter Tryz.func42,Tryz.ntmps42
 have hE2:x=2→z < 4→y > 3→∀ T,(if z=3∧y < 6 then [111,117,116] else pick eA z)=T→edT x y z p q=T++pick eB (y-4):=fun a b c T e=>by rw[←e];exact if_pos ⟨a,b,by omega⟩
 refine JA<|qQ [] (Many.begin W) fun w1 k1=>coS<|coR<|qR 3 [] k1 fun w2 k2 =>
  if hx2:x=2 then tell 18 (show (x==2)=true by simpa using hx2)<|qR 2 [] k2 fun w3 k3 =>
  if hz4:z < 4 then tell 20 (show decide (z < 4)=true by simpa using hz4)<|qR 4 [] k3 fun w4 k4 =>
  if hy3:y > 3 then tell 24 (show decide (y > 3)=true by simpa using hy3)<|qE [] k4 fun w5 k5=>coT<|coR<|qR 2 [] k5 fun w6 k6=>wM (Jm (ixL w5.heap.size 4 4 z ⟨hz.1,hz4⟩ w6))<|wM (Jc (ldP (k6.row 1 (b:=w5.heap.size) (t:=9) (sv pl d m eA) (by kernel_rfl)) z ⟨hz.1,hz4⟩))<|qE [] k6 fun w7 k7=>coS<|coR<|qR 3 [] k7 fun w8 k8 =>
  if hz3:z=3 then tell 32 (show (z==3)=true by simpa using hz3)<|qR 2 [] k8 fun w9 k9 =>
  if hy6:y < 6 then tell 34 (show decide (y < 6)=true by simpa using hy6)<|qE [] k9 fun wa ka=>coT<|coZ<|qF [] ka fun wb kb=>eoT ?g3
  else tell 34 (show decide (y < 6)=false by simpa using hy6)<|qE [] k9 fun wa ka=>coF<|JC<|eoT ?g2
  else tell 32 (show (z==3)=false by simpa using hz3)<|qE [] k8 fun w9 k9=>coF<|JC<|eoT ?g1
  else tell 24 (show decide (y > 3)=false by simpa using hy3)<|qE [] k4 fun w5 k5=>coF<|JC<|eoT ?r3
  else tell 20 (show decide (z < 4)=false by simpa using hz4)<|qE [] k3 fun w4 k4=>coF<|JC<|eoT ?r2
  else tell 18 (show (x==2)=false by simpa using hx2)<|qE [] k2 fun w3 k3=>coF<|JC<|eoT ?r1
 case' g1 =>
  have hr:=hE2 hx2 hz4 hy3 (pick eA z) (if_neg fun h=>hz3 h.1)
  have hl:(pick eA z:List Nat).length≤8:=by exact hA
  have hB:=(k9.take 0 []).touch.below
  obtain⟨w',hw'⟩:∃ w',w'=w9:=⟨_,rfl⟩
  rw[←hw'] at hB ⊢
  refine XK (QVn y (.string (sy pl d m (pick eA z)))) fun sl=>?_
  generalize (pick eA z:List Nat)=r at hr hl ⊢
 case' g2 =>
  have hr:=hE2 hx2 hz4 hy3 (pick eA z) (if_neg fun h=>hy6 h.2)
  have hl:(pick eA z:List Nat).length≤8:=by exact hA
  have hB:=(ka.take 0 []).touch.below
  obtain⟨w',hw'⟩:∃ w',w'=wa:=⟨_,rfl⟩
  rw[←hw'] at hB ⊢
  refine XK (QVn y (.string (sy pl d m (pick eA z)))) fun sl=>?_
  generalize (pick eA z:List Nat)=r at hr hl ⊢
 case' g3 =>
  have hr:=hE2 hx2 hz4 hy3 ([111,117,116]) (if_pos ⟨hz3,hy6⟩)
  have hl:([111,117,116]:List Nat).length≤8:=by decide
  have hB:=(kb.take 0 []).touch.below
  obtain⟨w',hw'⟩:∃ w',w'=wb:=⟨_,rfl⟩
  rw[←hw'] at hB ⊢
  refine XK (QVn y (.string (sy pl d m ([111,117,116])))) fun sl=>?_
  generalize ([111,117,116]:List Nat)=r at hr hl ⊢
 case g1|g2|g3 =>
  exact coR<|qR 3 [] (Many.begin w') fun wb kb=>kBj 39 (.int .i64 y) (.int .i64 4) (.int .i64 (y-4)) (egI _ _ _ _ _) (QJm _ _ (by omega) (by omega))<|wM (Jm (ixL w'.heap.size 4 4 (y-4) (by omega) wb))<|wM (Jc (ldP (kb.row 0 (b:=w'.heap.size) (t:=9) (sv pl d m eB) (by kernel_rfl)) (y-4) ⟨by omega,by show y-4 < 4;omega⟩))<|wM (xSy pl d m r (pick eB (y-4)))<|qE [] kb fun wc kc=>JE<|Je<|JR (.string (sy pl d m (r++pick eB (y-4)))) ⟨by rw[hr],bOn hB (kc.take 0 [])⟩
 case' r1 =>
  have hne:¬(x=2∧z < 4∧3 < y):=fun h=>hx2 h.1
  have K:=k3.take 1 [⟨W.heap.size,49,[.int .i64 pl,.int .u8 c,.int .u8 d,.int .u16 m,.int .i64 le,.int .i64 sk].map some⟩]
  refine XK (QVP W.heap.size x y z p q) fun sl=>?_
 case' r2 =>
  have hne:¬(x=2∧z < 4∧3 < y):=fun h=>hz4 h.2.1
  have K:=k4.take 1 [⟨W.heap.size,49,[.int .i64 pl,.int .u8 c,.int .u8 d,.int .u16 m,.int .i64 le,.int .i64 sk].map some⟩]
  refine XK (QVP W.heap.size x y z p q) fun sl=>?_
 case' r3 =>
  have hne:¬(x=2∧z < 4∧3 < y):=fun h=>hy3 (by omega)
  have K:=k5.take 1 [⟨W.heap.size,49,[.int .i64 pl,.int .u8 c,.int .u8 d,.int .u16 m,.int .i64 le,.int .i64 sk].map some⟩]
  refine XK (QVP W.heap.size x y z p q) fun sl=>?_
 case r1|r2|r3 =>
  refine coS<|qQ [] K fun wa ka=>coI (x != 1) (fun h=>?_) fun h=>JC<|eoT ?_
  · have h:¬x=1:=by simpa using h
    exact qQ [] ka fun wb kb=>JE<|Je<|JR (.string (sy pl d m [110,111,112,42])) ⟨by rw[show edT x y z p q=[110,111,112,42] from (if_neg hne).trans (if_pos h)],kb.touch.below⟩
  have h:x=1:=by simpa using h
  have hE:edT x y z p q=_:=(if_neg hne).trans (if_neg fun e=>e h)
  rw[hE]
  refine coR<|qR 2 [] ka fun wb kb=>qC (QQO pl d m y hy wb) kb fun wc kc=>qE [] kc fun wd kd=>coR<|qR 2 [] kd fun we ke=>qC (QVZ pl d m p hp we) ke fun wf kf=>qE [] kf fun wg kg=>coS<|qQ [] kg fun wh kh=>coB ?_
  refine qQ [] kh fun wi ki=>coI (z==0) (fun e=>?_) fun e0=>qQ [] ki fun wj kj=>coI (z==1) (fun e=>?_) fun e1=>qQ [] kj fun wk kk=>coI (z==2) (fun e=>?_) fun e2=>qQ [] kk fun wl kl=>coI (z==3) (fun e=>?_) fun e3=>qQ [] kl fun wm km=>coI (z==4) (fun e=>?_) fun e4=>qQ [] km fun wn kn=>coI (z==5) (fun e=>?_) fun e5=>qQ [] kn fun wo ko=>coI (z==6) (fun e=>?_) fun e6=>JC<|eoB<|eoT ?_
  · obtain rfl:z=0:=by simpa using e
    refine coS<|qQ [] ki fun wj kj=>coI (y==6) (fun h6=>coZ<|qF [] kj fun wk kk=>eoT ?_) fun h6=>JC<|eoT ?_
    · have h6:y=6:=by simpa using h6
      exact coR<|qR 1 [] kk fun wl kl=>wM (xSy pl d m [105,110,32] [102])<|wM (xSy pl d m ([105,110,32]++[102]) [44,40,99,41])<|qE [] kl fun wm km=>JE<|QG<|Je<|JR (.string (sy pl d m ([105,110,32]++[102]++[44,40,99,41]))) ⟨by rw[if_pos rfl,if_pos h6],km.touch.below⟩
    · have h6:¬y=6:=by simpa using h6
      exact coR<|qR 1 [] kj fun wl kl=>wM (xSy pl d m [105,110,32] (pick QL y))<|wM (xSy pl d m ([105,110,32]++pick QL y) [44,40,99,41])<|qE [] kl fun wm km=>JE<|QG<|Je<|JR (.string (sy pl d m ([105,110,32]++pick QL y++[44,40,99,41]))) ⟨by rw[if_pos rfl,if_neg h6],km.touch.below⟩
  · obtain rfl:z=1:=by simpa using e
    refine coS<|qQ [] kj fun wk kk=>coI (y==6) (fun h6=>coZ<|qF [] kk fun wl kl=>eoT ?_) fun h6=>JC<|eoT ?_
    · have h6:y=6:=by simpa using h6
      exact coR<|qR 1 [] kl fun wm km=>wM (xSy pl d m [111,117,116,32,40,99,41,44] [48])<|qE [] km fun wn kn=>JE<|QG<|Je<|JR (.string (sy pl d m ([111,117,116,32,40,99,41,44]++[48]))) ⟨by rw[if_neg (by decide),if_pos rfl,if_pos h6],kn.touch.below⟩
    · have h6:¬y=6:=by simpa using h6
      exact coR<|qR 1 [] kk fun wm km=>wM (xSy pl d m [111,117,116,32,40,99,41,44] (pick QL y))<|qE [] km fun wn kn=>JE<|QG<|Je<|JR (.string (sy pl d m ([111,117,116,32,40,99,41,44]++pick QL y))) ⟨by rw[if_neg (by decide),if_pos rfl,if_neg h6],kn.touch.below⟩
  · obtain rfl:z=2:=by simpa using e
    exact coR<|qR 2 [] kk fun wl kl=>wM (Jm (ixL wk.heap.size 2 2 q (by omega) wl))<|wM (Jc (ldP (kl.row 1 (b:=wk.heap.size) (t:=9) (sv pl d m eC) (by kernel_rfl)) q ⟨hq.1,by show q < 2;omega⟩))<|qR 1 [] kl fun wm km=>wM (xSy pl d m (pick eC q) (pick QX p))<|qE [] km fun wn kn=>JE<|QG<|Je<|JR (.string (sy pl d m (pick eC q++pick QX p))) ⟨rfl,kn.touch.below⟩
  · obtain rfl:z=3:=by simpa using e
    refine coS<|qQ [] kl fun wm km=>coI (q==0) (fun g=>?_) fun g=>JC<|eoT ?_
    · have g:q=0:=by simpa using g
      exact coR<|qR 1 [0] km fun wn kn=>qC (qI pl c d m le sk h0 h1 wn) kn fun wo ko=>wM (xSy pl d m [108,100,32,40] [257])<|wM (xSy pl d m ([108,100,32,40]++[257]) [41,44])<|qR 1 [] ko fun wp kp=>wM (xSy pl d m ([108,100,32,40]++[257]++[41,44]) (pick QX p))<|qE [] kp fun wq kq=>JE<|Je<|QG<|Je<|JR (.string (sy pl d m ([108,100,32,40]++[257]++[41,44]++pick QX p))) ⟨by rw[if_neg (by decide),if_neg (by decide),if_neg (by decide),if_pos rfl,if_pos g],kq.touch.below⟩
    · have g:¬q=0:=by simpa using g
      exact coR<|qR 1 [] km fun wn kn=>wM (xSy pl d m [108,100,32] (pick QX p))<|wM (xSy pl d m ([108,100,32]++pick QX p) [44,40])<|qR 1 [0] kn fun wo ko=>qC (qI pl c d m le sk h0 h1 wo) ko fun wp kp=>wM (xSy pl d m ([108,100,32]++pick QX p++[44,40]) [257])<|wM (xSy pl d m ([108,100,32]++pick QX p++[44,40]++[257]) [41]) <|
       qE [] kp fun wq kq=>JE<|QG<|Je<|JR (.string (sy pl d m ([108,100,32]++pick QX p++[44,40]++[257]++[41]))) ⟨by rw[if_neg (by decide),if_neg (by decide),if_neg (by decide),if_pos rfl,if_neg g],kq.touch.below⟩
  · obtain rfl:z=4:=by simpa using e
    exact qQ [] km fun wn kn=>JE<|QG<|Je<|JR (.string (sy pl d m [110,101,103])) ⟨rfl,kn.touch.below⟩
  · obtain rfl:z=5:=by simpa using e
    refine coS<|qQ [] kn fun wo ko=>coI (y==1) (fun g=>?_) fun g=>JC<|eoT ?_
    · have g:y=1:=by simpa using g
      exact qQ [] ko fun wp kp=>JE<|Je<|QG<|Je<|JR (.string (sy pl d m [114,101,116,105])) ⟨by rw[if_neg (by decide),if_neg (by decide),if_neg (by decide),if_neg (by decide),if_neg (by decide),if_pos rfl,if_pos g],kp.touch.below⟩
    · have g:¬y=1:=by simpa using g
      exact qQ [] ko fun wp kp=>JE<|QG<|Je<|JR (.string (sy pl d m [114,101,116,110])) ⟨by rw[if_neg (by decide),if_neg (by decide),if_neg (by decide),if_neg (by decide),if_neg (by decide),if_pos rfl,if_neg g],kp.touch.below⟩
  · obtain rfl:z=6:=by simpa using e
    exact coR<|qR 2 [] ko fun wp kp=>kBj 100 (.int .i64 y) (.int .i64 4) (.int .i64 (y%4)) (egI _ _ _ _ _) (rem4 y hy.1)<|wM (Jm (ixL wo.heap.size 4 4 (y%4) (by omega) wp))<|wM (Jc (ldP (kp.row 1 (b:=wo.heap.size) (t:=9) (sv pl d m eM4) (by kernel_rfl)) (y%4) ⟨by omega,by show y%4 < 4;omega⟩))<|wM (xSy pl d m [105,109,32] (pick eM4 (y%4)))<|qE [] kp fun wq kq=>JE<|QG<|Je<|JR (.string (sy pl d m ([105,109,32]++pick eM4 (y%4)))) ⟨rfl,kq.touch.below⟩
  · have e0:¬z=0:=by simpa using e0
    have e1:¬z=1:=by simpa using e1
    have e2:¬z=2:=by simpa using e2
    have e3:¬z=3:=by simpa using e3
    have e4:¬z=4:=by simpa using e4
    have e5:¬z=5:=by simpa using e5
    have e6:¬z=6:=by simpa using e6
    obtain rfl:z=7:=by omega
    exact coR<|qR 2 [] ko fun wp kp=>wM (Jm (ixL wo.heap.size 8 8 y (by omega) wp))<|wM (Jc (ldP (kp.row 1 (b:=wo.heap.size) (t:=9) (sv pl d m zE) (by kernel_rfl)) y ⟨hy.1,by show y < 8;omega⟩))<|qE [] kp fun wq kq=>JE<|JR (.string (sy pl d m (pick zE y))) ⟨rfl,kq.touch.below⟩
theorem QJu (pl c d m le sk:Int)(hc:B8 c)(hd:B8 d)(h0:0≤m)(h1:m≤65535)(W:World) :
 Calls Tryz.prog 21 #[opV pl c d m le sk] W fun e W'=>e=.returned (.string (sy pl d m (jL pl c)))∧Below W.heap.size W W':=by
 have bx:=QKN c hc
 have hy:=QKI c hc
 have hz:=QK0 c hc
 have hp:=fp_b c hc
 have hq:=fq_b c hc
 have hRy:=QGd pl (JP pl c) (fy c)
 have hRz:=QGd pl (JP pl c) (fz c)
 have hS:=Jv QBB (by decide) (fy c)
 go_enter Tryz.func21,Tryz.ntmps21
 refine JA<|qQ [] (Many.begin W) fun w1 k1=>coR<|qR 2 [0] k1 fun w2 k2=>qCe (QAI c hc w2)<|qE [] k2 fun w3 k3=>coS<|qQ [0] k3 fun w4 k4=>coB<|coS<|qQ [] k4 fun w5 k5=>coI (pl==1) (fun e=>JC<|eoT ?b1) fun e1=>qQ [] k5 fun w6 k6=>coI (pl==5) (fun e=>JC<|eoT ?b5) fun e5=>coZ<|qF [] k6 fun w7 k7=>eoT<|coI (pl==6) (fun e=>?b6) fun e6=>?_
 case b1=>exact coI (pl==1) (fun _=>coR<|qR 4 [0] k5 fun wx kx=>qC (QBV pl c d m le sk (fx c) (fy c) (fz c) hd bx hy hz wx) kx fun wy ky=>qE [] ky fun wz kz=>JE<|QG<|Je<|JR (.string (sy pl d m (QBE pl (fx c) (fy c) (fz c)))) ⟨by rw[show jL pl c=QBE pl (fx c) (fy c) (fz c) from if_pos (.inl (by simpa using e))],kz.touch.below⟩) fun h=>Bool.noConfusion (e.symm.trans h)
 case b5=>exact coI (pl==5) (fun _=>coR<|qR 4 [0] k6 fun wx kx=>qC (QBV pl c d m le sk (fx c) (fy c) (fz c) hd bx hy hz wx) kx fun wy ky=>qE [] ky fun wz kz=>JE<|QG<|Je<|JR (.string (sy pl d m (QBE pl (fx c) (fy c) (fz c)))) ⟨by rw[show jL pl c=QBE pl (fx c) (fy c) (fz c) from if_pos (.inr (.inl (by simpa using e)))],kz.touch.below⟩) fun h=>Bool.noConfusion (e.symm.trans h)
 case b6=>exact coR<|qR 4 [0] k7 fun wx kx=>qC (QBV pl c d m le sk (fx c) (fy c) (fz c) hd bx hy hz wx) kx fun wy ky=>qE [] ky fun wz kz=>JE<|QG<|Je<|JR (.string (sy pl d m (QBE pl (fx c) (fy c) (fz c)))) ⟨by rw[show jL pl c=QBE pl (fx c) (fy c) (fz c) from if_pos (.inr (.inr (by simpa using e)))],kz.touch.below⟩
 have e1:¬pl=1:=by simpa using e1
 have e5:¬pl=5:=by simpa using e5
 have e6:¬pl=6:=by simpa using e6
 refine qQ [] k7 fun w8 k8=>coI (pl==2) (fun e=>?e2) fun e2=>coS<|qQ [] k8 fun w9 k9=>coI (pl==0) (fun e=>JC<|eoT<|coI (pl==0) (fun _=>JC<|eoB<|eoT ?n0) fun h=>Bool.noConfusion (e.symm.trans h)) fun e0=>qQ [] k9 fun wa ka=>coI (pl==3) (fun e=>JC<|eoT<|coI (pl==3) (fun _=>JC<|eoB<|eoT ?n3) fun h=>Bool.noConfusion (e.symm.trans h)) fun e3=>coZ<|qF [] ka fun wb kb=>eoT<|coI (pl==4) (fun e=>JC<|eoB<|eoT ?n4) fun e4=>?_
 case e2=>exact coR<|qR 6 [0] k8 fun wx kx=>qC (QPY pl c d m le sk (fx c) (fy c) (fz c) (fp c) (fq c) h0 h1 bx hy hz hp hq wx) kx fun wy ky=>qE [] ky fun wz kz=>JE<|QG<|Je<|JR (.string (sy pl d m (edT (fx c) (fy c) (fz c) (fp c) (fq c)))) ⟨by rw[show jL pl c=edT (fx c) (fy c) (fz c) (fp c) (fq c) from (if_neg (by omega)).trans (if_pos (by simpa using e))],kz.touch.below⟩
 case' n0 =>
  have hpl:pl=0∨pl=3∨pl=4:=.inl (by simpa using e)
  have hn2:¬pl=2:=by simpa using e2
  have K:=k9.take 1 [⟨W.heap.size,49,[.int .i64 pl,.int .u8 c,.int .u8 d,.int .u16 m,.int .i64 le,.int .i64 sk].map some⟩]
  refine XK (QOh W.heap.size (fx c) (fy c) (fz c) (fp c) (fq c)) fun sl=>?_
 case' n3 =>
  have hpl:pl=0∨pl=3∨pl=4:=.inr (.inl (by simpa using e))
  have hn2:¬pl=2:=by simpa using e2
  have K:=ka.take 1 [⟨W.heap.size,49,[.int .i64 pl,.int .u8 c,.int .u8 d,.int .u16 m,.int .i64 le,.int .i64 sk].map some⟩]
  refine XK (QOh W.heap.size (fx c) (fy c) (fz c) (fp c) (fq c)) fun sl=>?_
 case' n4 =>
  have hpl:pl=0∨pl=3∨pl=4:=.inr (.inr (by simpa using e))
  have hn2:¬pl=2:=by simpa using e2
  have K:=kb.take 1 [⟨W.heap.size,49,[.int .i64 pl,.int .u8 c,.int .u8 d,.int .u16 m,.int .i64 le,.int .i64 sk].map some⟩]
  refine XK (QOh W.heap.size (fx c) (fy c) (fz c) (fp c) (fq c)) fun sl=>?_
 case n0|n3|n4 =>
  have hM:jL pl c=_:=(if_neg (by omega)).trans ((if_neg hn2).trans (if_pos hpl))
  rw[hM]
  refine coS<|qQ [] K fun wc kc=>coB<|qQ [] kc fun wd kd=>coI (fx c==0) (fun e=>?_) fun e0=>qQ [] kd fun we ke=>coI (fx c==1) (fun e=>?_) fun e1=>qQ [] ke fun wf kf=>coI (fx c==2) (fun e=>?_) fun e2=>JC<|eoB<|eoT ?_
  · exact coR<|qR 5 [0] kd fun wx kx=>qC (QJ0 pl c d m le sk (fy c) (fz c) (fp c) (fq c) hc hd h0 h1 hy hz hp hq wx) kx fun wy ky=>qE [] ky fun wz kz=>JE<|QG<|Je<|JR (.string (sy pl d m (qz pl (JP pl c) (fy c) (fz c) (fp c) (fq c)))) ⟨by rw[if_pos (by simpa using e)],kz.touch.below⟩
  · have e0:¬fx c=0:=by simpa using e0
    have e:fx c=1:=by simpa using e
    rw[if_neg e0,if_pos e]
    refine coS<|coR<|qR 3 [] ke fun wx kx=>?_
    by_cases hy6:fy c=6
    · refine tell 54 (show (fy c==6)=true by simpa using hy6)<|qR 2 [] kx fun wy ky=>?_
      by_cases hz6:fz c=6
      · exact tell 56 (show (fz c==6)=true by simpa using hz6)<|qE [] ky fun wz kz=>coT<|qQ [] kz fun wp kp=>JE<|Je<|QG<|Je<|JR (.string (sy pl d m [104,97,108,116])) ⟨by rw[if_pos ⟨hy6,hz6⟩],kp.touch.below⟩
      · rw[if_neg fun h=>hz6 h.2]
        exact tell 56 (show (fz c==6)=false by simpa using hz6)<|qE [] ky fun wz kz=>coF<|JC<|eoT<|qP 8 kz fun wi ki=>qD 0 [0,1,5,6] ki<|qDc 2 (ZU pl c d m le sk (fy c) hc hd hy wi) ki fun wj kj=>qT 3 kj (fun w' _=>xSy pl d m [108,100,32] (ZQ pl (JP pl c) (fy c)))<|qT 4 kj (fun w' _=>xSy pl d m ([108,100,32]++ZQ pl (JP pl c) (fy c)) [44])<|qDc 7 (ZU pl c d m le sk (fz c) hc hd hz wj) kj fun wk kk=>poE<|wM (xSy pl d m ([108,100,32]++ZQ pl (JP pl c) (fy c)++[44]) (ZQ pl (JP pl c) (fz c)))<|qE [] kk fun wl kl=>JE<|QG<|Je<|JR (.string (sy pl d m ([108,100,32]++ZQ pl (JP pl c) (fy c)++[44]++ZQ pl (JP pl c) (fz c)))) ⟨rfl,kl.touch.below⟩
    · rw[if_neg fun h=>hy6 h.1]
      exact tell 54 (show (fy c==6)=false by simpa using hy6)<|qE [] kx fun wz kz=>coF<|JC<|eoT<|qP 8 kz fun wi ki=>qD 0 [0,1,5,6] ki<|qDc 2 (ZU pl c d m le sk (fy c) hc hd hy wi) ki fun wj kj=>qT 3 kj (fun w' _=>xSy pl d m [108,100,32] (ZQ pl (JP pl c) (fy c)))<|qT 4 kj (fun w' _=>xSy pl d m ([108,100,32]++ZQ pl (JP pl c) (fy c)) [44])<|qDc 7 (ZU pl c d m le sk (fz c) hc hd hz wj) kj fun wk kk=>poE<|wM (xSy pl d m ([108,100,32]++ZQ pl (JP pl c) (fy c)++[44]) (ZQ pl (JP pl c) (fz c)))<|qE [] kk fun wl kl=>JE<|QG<|Je<|JR (.string (sy pl d m ([108,100,32]++ZQ pl (JP pl c) (fy c)++[44]++ZQ pl (JP pl c) (fz c)))) ⟨rfl,kl.touch.below⟩
  · have e0:¬fx c=0:=by simpa using e0
    have e1:¬fx c=1:=by simpa using e1
    rw[if_neg e0,if_neg e1,if_pos (by simpa using e)]
    exact qP 7 kf fun wi ki=>qD 0 [1,4,5] ki<|qDn 0 1 (QPi pl d m wi) ki (by kernel_rfl) fun wj kj=>qT 2 kj (fun w' _=>Jm (ixL wi.heap.size 8 8 (fy c) (by omega) _))<|qT 3 kj (fun w' hS=>Jc (ldP (hS.row 1 (b:=wi.heap.size) (t:=9) (sv pl d m QBB) (by kernel_rfl)) (fy c) ⟨hy.1,by show fy c < 8;omega⟩))<|qDc 6 (ZU pl c d m le sk (fz c) hc hd hz wj) kj fun wk kk =>
     poE<|wM (xSy pl d m (pick QBB (fy c)) (ZQ pl (JP pl c) (fz c)))<|qE [] kk fun wl kl=>JE<|QG<|Je<|JR (.string (sy pl d m (pick QBB (fy c)++ZQ pl (JP pl c) (fz c)))) ⟨rfl,kl.touch.below⟩
  · have e0:¬fx c=0:=by simpa using e0
    have e1:¬fx c=1:=by simpa using e1
    have e2:¬fx c=2:=by simpa using e2
    rw[if_neg e0,if_neg e1,if_neg e2]
    exact coR<|qR 5 [0] kf fun wx kx=>qC (QIA pl c d m le sk (fy c) (fz c) (fp c) (fq c) hc hd h0 h1 hy hz hp hq wx) kx fun wy ky=>qE [] ky fun wz kz=>JE<|JR (.string (sy pl d m (ZS pl (fy c) (fz c) (fp c) (fq c)))) ⟨rfl,kz.touch.below⟩
 have e0:¬pl=0:=by simpa using e0
 have e3:¬pl=3:=by simpa using e3
 have e4:¬pl=4:=by simpa using e4
 exact qQ [] kb fun wc kc=>JE<|QG<|Je<|JR (.string (sy pl d m [63])) ⟨by rw[show jL pl c=[63] from (if_neg (by omega)).trans ((if_neg (by simpa using e2)).trans (if_neg (by omega)))],kc.touch.below⟩
end Go.Proofs.YtmgcgiecimnncaaGreatDoor
