/- Contracts and facts that the claim's proof wants (several texts in one). -/
import Derived.Deep.DeepHandedRow
import Derived.Test.YtkenebbjodcbcaaGreatDoorCoH4
namespace Go.Proofs.YtkenebbjodcbcaaGreatDoor
open Go.RowKit
set_option linter.unusedVariables false
set_option linter.unusedSimpArgs false
set_option maxRecDepth 20000
set_option maxHeartbeats 20000000
section
theorem QTj (v0:Value)(W:World)(b:Nat)(hb:b=W.heap.size) :
 (Instr.mapUpdate 198 (.map (some b)) (.int .i64 0) v0).run Tryz.prog (W.alloc (.map #[] 0))=.ok () (W.alloc (.map #[⟨.int .i64 0,v0,0⟩] 1)) :=
 Jl W _ _ _ Tryz.underlying198 Tryz.underlying3 _ _ _ _ b hb rfl
theorem QT5 (v0 v1:Value)(W:World)(b:Nat)(hb:b=W.heap.size) :
 (Instr.mapUpdate 198 (.map (some b)) (.int .i64 1) v1).run Tryz.prog (W.alloc (.map #[⟨.int .i64 0,v0,0⟩] 1))=.ok () (W.alloc (.map #[⟨.int .i64 0,v0,0⟩,⟨.int .i64 1,v1,1⟩] 2)) :=
 Jl W _ _ _ Tryz.underlying198 Tryz.underlying3 _ _ _ _ b hb rfl
theorem QTw (v0 v1 v2:Value)(W:World)(b:Nat)(hb:b=W.heap.size) :
 (Instr.mapUpdate 198 (.map (some b)) (.int .i64 2) v2).run Tryz.prog (W.alloc (.map #[⟨.int .i64 0,v0,0⟩,⟨.int .i64 1,v1,1⟩] 2))=.ok () (W.alloc (.map #[⟨.int .i64 0,v0,0⟩,⟨.int .i64 1,v1,1⟩,⟨.int .i64 2,v2,2⟩] 3)) :=
 Jl W _ _ _ Tryz.underlying198 Tryz.underlying3 _ _ _ _ b hb rfl
theorem QUE (v0 v1 v2 v3:Value)(W:World)(b:Nat)(hb:b=W.heap.size) :
 (Instr.mapUpdate 198 (.map (some b)) (.int .i64 3) v3).run Tryz.prog (W.alloc (.map #[⟨.int .i64 0,v0,0⟩,⟨.int .i64 1,v1,1⟩,⟨.int .i64 2,v2,2⟩] 3))=.ok () (W.alloc (.map #[⟨.int .i64 0,v0,0⟩,⟨.int .i64 1,v1,1⟩,⟨.int .i64 2,v2,2⟩,⟨.int .i64 3,v3,3⟩] 4)) :=
 Jl W _ _ _ Tryz.underlying198 Tryz.underlying3 _ _ _ _ b hb rfl
theorem QUA (v0 v1 v2 v3 v4:Value)(W:World)(b:Nat)(hb:b=W.heap.size) :
 (Instr.mapUpdate 198 (.map (some b)) (.int .i64 4) v4).run Tryz.prog (W.alloc (.map #[⟨.int .i64 0,v0,0⟩,⟨.int .i64 1,v1,1⟩,⟨.int .i64 2,v2,2⟩,⟨.int .i64 3,v3,3⟩] 4))=.ok () (W.alloc (.map #[⟨.int .i64 0,v0,0⟩,⟨.int .i64 1,v1,1⟩,⟨.int .i64 2,v2,2⟩,⟨.int .i64 3,v3,3⟩,⟨.int .i64 4,v4,4⟩] 5)) :=
 Jl W _ _ _ Tryz.underlying198 Tryz.underlying3 _ _ _ _ b hb rfl
theorem QTv (v0 v1 v2 v3 v4 v5:Value)(W:World)(b:Nat)(hb:b=W.heap.size) :
 (Instr.mapUpdate 198 (.map (some b)) (.int .i64 5) v5).run Tryz.prog (W.alloc (.map #[⟨.int .i64 0,v0,0⟩,⟨.int .i64 1,v1,1⟩,⟨.int .i64 2,v2,2⟩,⟨.int .i64 3,v3,3⟩,⟨.int .i64 4,v4,4⟩] 5))=.ok () (W.alloc (.map #[⟨.int .i64 0,v0,0⟩,⟨.int .i64 1,v1,1⟩,⟨.int .i64 2,v2,2⟩,⟨.int .i64 3,v3,3⟩,⟨.int .i64 4,v4,4⟩,⟨.int .i64 5,v5,5⟩] 6)) :=
 Jl W _ _ _ Tryz.underlying198 Tryz.underlying3 _ _ _ _ b hb rfl
theorem QT0 (v0 v1 v2 v3 v4 v5 v6:Value)(W:World)(b:Nat)(hb:b=W.heap.size) :
 (Instr.mapUpdate 198 (.map (some b)) (.int .i64 6) v6).run Tryz.prog (W.alloc (.map #[⟨.int .i64 0,v0,0⟩,⟨.int .i64 1,v1,1⟩,⟨.int .i64 2,v2,2⟩,⟨.int .i64 3,v3,3⟩,⟨.int .i64 4,v4,4⟩,⟨.int .i64 5,v5,5⟩] 6))=.ok () (W.alloc (.map #[⟨.int .i64 0,v0,0⟩,⟨.int .i64 1,v1,1⟩,⟨.int .i64 2,v2,2⟩,⟨.int .i64 3,v3,3⟩,⟨.int .i64 4,v4,4⟩,⟨.int .i64 5,v5,5⟩,⟨.int .i64 6,v6,6⟩] 7)) :=
 Jl W _ _ _ Tryz.underlying198 Tryz.underlying3 _ _ _ _ b hb rfl
theorem QTq (v0 v1 v2 v3 v4 v5 v6 v7:Value)(W:World)(b:Nat)(hb:b=W.heap.size) :
 (Instr.mapUpdate 198 (.map (some b)) (.int .i64 7) v7).run Tryz.prog (W.alloc (.map #[⟨.int .i64 0,v0,0⟩,⟨.int .i64 1,v1,1⟩,⟨.int .i64 2,v2,2⟩,⟨.int .i64 3,v3,3⟩,⟨.int .i64 4,v4,4⟩,⟨.int .i64 5,v5,5⟩,⟨.int .i64 6,v6,6⟩] 7))=.ok () (W.alloc (.map #[⟨.int .i64 0,v0,0⟩,⟨.int .i64 1,v1,1⟩,⟨.int .i64 2,v2,2⟩,⟨.int .i64 3,v3,3⟩,⟨.int .i64 4,v4,4⟩,⟨.int .i64 5,v5,5⟩,⟨.int .i64 6,v6,6⟩,⟨.int .i64 7,v7,7⟩] 8)) :=
 Jl W _ _ _ Tryz.underlying198 Tryz.underlying3 _ _ _ _ b hb rfl
attribute [local go_sem] QTj QT5 QTw QUE QUA QTv QT0 QTq
abbrev QLH (O:Nat):Value:=.func (.func 331) #[] #[.pointer (some ⟨O,0,none⟩)]
abbrev QDl (F:Nat):Value:=.func (.func 332) #[] #[.pointer (some ⟨F,0,none⟩)]
abbrev QHL:Value:=.func (.func 333) #[] #[]
abbrev QRd (B:Nat):Value:=.func (.func 334) #[] #[.pointer (some ⟨B,0,none⟩)]
abbrev QRp:Value:=.func (.func 335) #[] #[]
def Xq (B F O:Nat):Array MapEntry:=#[⟨.int .i64 0,QLH O,0⟩,⟨.int .i64 1,QLH O,1⟩,⟨.int .i64 2,QDl F,2⟩,⟨.int .i64 3,QDl F,3⟩,⟨.int .i64 4,QHL,4⟩,⟨.int .i64 5,QRd B,5⟩,⟨.int .i64 6,QRp,6⟩,⟨.int .i64 7,QHL,7⟩]
def QUF (w:World)(B F O M:Nat)(b f:Int)(o:Bool):Prop :=
 (w.cell? ⟨B,0,none⟩=some (.int .u8 b)∧w.cell? ⟨F,0,none⟩=some (.int .u8 f)∧w.cell? ⟨O,0,none⟩=some (.bool o))∧w.heap[M]? = some (.map (Xq B F O) 8)
theorem Q2 (b f:Int)(o:Bool)(w:World) :
 Calls Tryz.prog 305 #[.int .u8 b,.int .u8 f,.bool o] w fun e w'=>∃ B F O M,e=.returned (.map (some M))∧QUF w' B F O M b f o∧Below w.heap.size w w':=by
 have hmm:=@run_makeMap Tryz.prog
 go_enter Tryz.func305,Tryz.ntmps305
 go_wp2
 go_ret
 have c1:=qY w (.int .u8 b) 5
 have c2:=qY (w.alloc (.cells #[.int .u8 b] 5)) (.int .u8 f) 5
 have c3:=qY ((w.alloc (.cells #[.int .u8 b] 5)).alloc (.cells #[.int .u8 f] 5)) (.bool o) 4
 simp only[World.size_alloc] at c2 c3
 refine⟨w.heap.size,w.heap.size+1,w.heap.size+1+1,w.heap.size+1+1+1,rfl,⟨⟨Zg _ _ (Zg _ _ (Zg _ _ c1)),Zg _ _ (Zg _ _ c2),Zg _ _ c3⟩,?_⟩,(by repeat (first|exact Below.refl _ _|assumption|refine JZ ?_ (by assumption)|refine Below.drew ?_|refine Below.alloc ?_ (by first|(simp;done)|(simp;omega)|omega) _|refine Below.setCell ?_ (by first|(simp;done)|(simp;omega)|omega) _))⟩
 have h:=(MapKept.heap_alloc (((w.alloc (.cells #[.int .u8 b] 5)).alloc (.cells #[.int .u8 f] 5)).alloc (.cells #[.bool o] 4)) (.map (Xq w.heap.size (w.heap.size+1) (w.heap.size+1+1)) 8)).1
 simp only[World.size_alloc] at h
 exact h
theorem QGG (O:Nat)(o:Bool)(w:World)(h:w.cell? ⟨O,0,none⟩=some (.bool o)) :
 Calls Tryz.prog 331 #[.pointer (some ⟨O,0,none⟩)] w fun e w'=>e=.returned (.bool o)∧w=w':=by
 go_enter Tryz.func331,Tryz.ntmps331
 go_wp2
 go_ret
 exact⟨rfl,rfl⟩
theorem QQk (f:Int)(h:B8 f):(bits .and .u8 f 1 != 0)=isM f 0:=by
 rw[zj f h]
 cases isM f 0<;>rfl
theorem QC1 (F:Nat)(f:Int)(hf:B8 f)(w:World)(h:w.cell? ⟨F,0,none⟩=some (.int .u8 f)) :
 Calls Tryz.prog 332 #[.pointer (some ⟨F,0,none⟩)] w fun e w'=>e=.returned (.bool (isM f 0))∧w=w':=by
 have hl:=Lib.hid (QQk f hf)
 go_enter Tryz.func332,Tryz.ntmps332
 go_wp2
 go_ret
 exact⟨Qn hl.out,rfl⟩
theorem QEw (w:World) :
 Calls Tryz.prog 333 #[] w fun e w'=>e=.returned (.bool false)∧w=w':=by
 go_enter Tryz.func333,Tryz.ntmps333
 go_wp2
 go_ret
 exact⟨rfl,rfl⟩
theorem QLu (B:Nat)(b:Int)(hb:B8 b)(w:World)(h:w.cell? ⟨B,0,none⟩=some (.int .u8 b)) :
 Calls Tryz.prog 334 #[.pointer (some ⟨B,0,none⟩)] w fun e w'=>e=.returned (.bool (isM b 7))∧w=w':=by
 go_enter Tryz.func334,Tryz.ntmps334
 go_wp2_with (first
  | (go_at_call 258;refine (XY _ _ (B8.lo (by assumption)) (B8.hi (by assumption)) _).mono ?_;rintro e w' ⟨rfl,rfl⟩))
 go_ret
 exact⟨rfl,rfl⟩
theorem QMH (w:World) :
 Calls Tryz.prog 335 #[] w fun e w'=>e=.returned (.bool true)∧w=w':=by
 go_enter Tryz.func335,Tryz.ntmps335
 go_wp2
 go_ret
 exact⟨rfl,rfl⟩
theorem QSg {w:World} {B F O M:Nat}(h:w.heap[M]? = some (.map (Xq B F O) 8)):(Instr.lookup 198 (.map (some M)) (.int .i64 0) true).run Tryz.prog w=.ok (.tuple #[QLH O,.bool true]) w :=
 QR Tryz.underlying198 Tryz.underlying3 h rfl
theorem QSA {w:World} {B F O M:Nat}(h:w.heap[M]? = some (.map (Xq B F O) 8)):(Instr.lookup 198 (.map (some M)) (.int .i64 1) true).run Tryz.prog w=.ok (.tuple #[QLH O,.bool true]) w :=
 QR Tryz.underlying198 Tryz.underlying3 h rfl
theorem QSm {w:World} {B F O M:Nat}(h:w.heap[M]? = some (.map (Xq B F O) 8)):(Instr.lookup 198 (.map (some M)) (.int .i64 2) true).run Tryz.prog w=.ok (.tuple #[QDl F,.bool true]) w :=
 QR Tryz.underlying198 Tryz.underlying3 h rfl
theorem QS5 {w:World} {B F O M:Nat}(h:w.heap[M]? = some (.map (Xq B F O) 8)):(Instr.lookup 198 (.map (some M)) (.int .i64 3) true).run Tryz.prog w=.ok (.tuple #[QDl F,.bool true]) w :=
 QR Tryz.underlying198 Tryz.underlying3 h rfl
theorem QSN {w:World} {B F O M:Nat}(h:w.heap[M]? = some (.map (Xq B F O) 8)):(Instr.lookup 198 (.map (some M)) (.int .i64 4) true).run Tryz.prog w=.ok (.tuple #[QHL,.bool true]) w :=
 QR Tryz.underlying198 Tryz.underlying3 h rfl
theorem QR6 {w:World} {B F O M:Nat}(h:w.heap[M]? = some (.map (Xq B F O) 8)):(Instr.lookup 198 (.map (some M)) (.int .i64 5) true).run Tryz.prog w=.ok (.tuple #[QRd B,.bool true]) w :=
 QR Tryz.underlying198 Tryz.underlying3 h rfl
theorem QSK {w:World} {B F O M:Nat}(h:w.heap[M]? = some (.map (Xq B F O) 8)):(Instr.lookup 198 (.map (some M)) (.int .i64 6) true).run Tryz.prog w=.ok (.tuple #[QRp,.bool true]) w :=
 QR Tryz.underlying198 Tryz.underlying3 h rfl
theorem QTR {w:World} {B F O M:Nat}(h:w.heap[M]? = some (.map (Xq B F O) 8)):(Instr.lookup 198 (.map (some M)) (.int .i64 7) true).run Tryz.prog w=.ok (.tuple #[QHL,.bool true]) w :=
 QR Tryz.underlying198 Tryz.underlying3 h rfl
theorem QRN {w:World} {B F O M:Nat} {k:Int}(hk:k < 0∨8≤k)(h:w.heap[M]? = some (.map (Xq B F O) 8)):(Instr.lookup 198 (.map (some M)) (.int .i64 k) true).run Tryz.prog w=.ok (.tuple #[.nilFunc,.bool false]) w :=
 qr Tryz.underlying198 Tryz.underlying3 h (by
  have n0:(k==0)=false:=by simp;omega
  have n1:(k==1)=false:=by simp;omega
  have n2:(k==2)=false:=by simp;omega
  have n3:(k==3)=false:=by simp;omega
  have n4:(k==4)=false:=by simp;omega
  have n5:(k==5)=false:=by simp;omega
  have n6:(k==6)=false:=by simp;omega
  have n7:(k==7)=false:=by simp;omega
  simp only[Xq,Instr.findNow,Instr.sameNow,if_true,n0,n1,n2,n3,n4,n5,n6,n7]) (by kernel_rfl)
end
def Courses (w:World):Prop:=w.cell? ⟨2,0,none⟩=some (.int .i64 1)∧w.cell? ⟨2,1,none⟩=some (.int .i64 7)∧w.cell? ⟨2,2,none⟩=some (.int .i64 0)∧w.cell? ⟨2,3,none⟩=some (.int .i64 (-1))∧w.cell? ⟨2,4,none⟩=some (.int .i64 0)∧w.cell? ⟨2,5,none⟩=some (.int .i64 7)
theorem Courses.below {w w':World}(h:Courses w)(k:Below w.heap.size w w'):Courses w':=by
 obtain⟨h0,h1,h2,h3,h4,h5⟩:=h
 exact⟨cell_kept h0 k,cell_kept h1 k,cell_kept h2 k,cell_kept h3 k,cell_kept h4 k,cell_kept h5 k⟩
theorem jA (y:Int):bits BinOp.and IntKind.i64 y 1=y%2:=by
 have e:(BitVec.ofInt 64 y &&& BitVec.ofInt 64 1).toNat=(y%2).toNat:=by
  rw[BitVec.toNat_and,show (BitVec.ofInt 64 1).toNat=2 ^ 1-1 by decide,Nat.and_two_pow_sub_one_eq_mod,BitVec.toNat_ofInt]
  omega
 show IntKind.i64.wrap ((BitVec.ofInt 64 y &&& BitVec.ofInt 64 1).toNat:Int)=_
 rw[e,IntKind.wrap_i64]
 omega
theorem QER (o:Bool)(w:World) :
 Calls Tryz.prog 255 #[.bool o] w fun e w'=>e=.returned (.int .u8 (one o))∧w=w':=by
 cases o
 all_goals
  go_enter Tryz.func255,Tryz.ntmps255
  go_wp2
  go_ret
  exact⟨rfl,rfl⟩
theorem QBG (w:World)(u v x:Value)(t:TypeId):(w.alloc (.cells #[u,v,x] t)).cell? ⟨w.heap.size,0,none⟩=some u∧(w.alloc (.cells #[u,v,x] t)).cell? ⟨w.heap.size,1,none⟩=some v∧(w.alloc (.cells #[u,v,x] t)).cell? ⟨w.heap.size,2,none⟩=some x:=by
 have e:∀ o:Obj,(w.alloc o).heap[w.heap.size]? = some o:=fun o=>by
  show (w.heap.push _)[w.heap.size]? = _
  simp
 refine⟨?_,?_,?_⟩<;>(simp only[World.cell?,e];rfl)
theorem QDI {w w':World} {p q r:Addr} {u v x:Value}(k:Below w.heap.size w w')(h:w.cell? p=some u∧w.cell? q=some v∧w.cell? r=some x):w'.cell? p=some u∧w'.cell? q=some v∧w'.cell? r=some x :=
 ⟨cell_kept h.1 k,cell_kept h.2.1 k,cell_kept h.2.2 k⟩
theorem last3 {p q r:Prop}(h:p∧q∧r):r:=h.2.2
abbrev jk (r:Int)(o k:Bool):Value:=.tuple #[.int .u8 r,.bool o,.bool k]
theorem QSV (b f:Int)(hb:B8 b)(hf:B8 f)(w:World)(hd:Courses w) :
 Calls Tryz.prog 253 #[.int .i64 0,.int .u8 b,.int .u8 f] w fun e w'=>e=.returned (jk (shM 0 b f) (ZR 0 b) true)∧Below w.heap.size w w':=by
 have hB:=hb
 clear hb
 obtain⟨d0,d1,d2,d3,d4,d5⟩:=hd
 have ka:=jA 0
 simp only[show (0:Int)%2=0 by decide] at ka
 have ht:B8 (Xk b 1):=Xa b 1 hB.1 hB.2
 go_enter Tryz.func253,Tryz.ntmps253
 go_wp2_with (first
  | (go_at_call 258;refine (XY _ _ (B8.lo (by assumption)) (B8.hi (by assumption)) _).mono ?_;rintro e w' ⟨rfl,rfl⟩)
  | (go_at_call 305;refine (Q2 _ _ _ _).mono ?_;rintro e w' ⟨B,F,O,M,rfl,⟨⟨c1,c2,c3⟩,hm⟩,hb⟩;have hl:=QSg hm))
 have k0:w'.cell? ⟨w.heap.size,0,none⟩=some (.int .i64 1):=cell_kept (QBG w _ _ _ _).1 hb
 have k2:w'.cell? ⟨w.heap.size,2,none⟩=some (.int .i64 0):=cell_kept (QBG w _ _ _ _).2.2 hb
 have hsz:=hb.size
 simp only[World.size_alloc] at hsz
 have hs:w'.cell? ⟨w.heap.size,0,none⟩=some (.int .i64 1)∧w'.cell? ⟨w.heap.size,2,none⟩=some (.int .i64 0)∧w'.cell? ⟨O,0,none⟩=some (.bool (isM b 7)):=⟨k0,k2,c3⟩
 have hb0:Below w.heap.size w w':=(by repeat (first|exact Below.refl _ _|assumption|refine JZ ?_ (by assumption)|refine Below.drew ?_|refine Below.alloc ?_ (by first|(simp;done)|(simp;omega)|omega) _|refine Below.setCell ?_ (by first|(simp;done)|(simp;omega)|omega) _))
 clear hb k0 k2 c1 c2 c3 hl hm d0 d1 d2 d3 d4 d5 ka
 go_region_held3 (fun w'=>w'.cell? ⟨w.heap.size,0,none⟩=some (.int .i64 1)∧w'.cell? ⟨w.heap.size,2,none⟩=some (.int .i64 0)∧w'.cell? ⟨O,0,none⟩=some (.bool (isM b 7))) (first|go_keep|exact QDI hb (by assumption))
  (first
  | (go_at_call 306;refine (je _ _ (B8.lo (by assumption)) (B8.hi (by assumption)) _).mono ?_;rintro e w' ⟨rfl,hb⟩;have hsz:=hb.size)
  | (go_at_call 331;refine (QGG O (isM b 7) _ (last3 (by assumption))).mono ?_;rintro e w' ⟨rfl,rfl⟩)
  | (go_at_call 195;refine (XS _ _ _ (B8.lo (by assumption)) (B8.hi (by assumption)) _).mono ?_;rintro e w' ⟨rfl,rfl⟩))
 go_wp2_with fail
 go_ret3
 exact⟨rfl,(by repeat (first|exact Below.refl _ _|assumption|refine JZ ?_ (by assumption)|refine Below.drew ?_|refine Below.alloc ?_ (by first|(simp;done)|(simp;omega)|omega) _|refine Below.setCell ?_ (by first|(simp;done)|(simp;omega)|omega) _))⟩
theorem QSC (b f:Int)(hb:B8 b)(hf:B8 f)(w:World)(hd:Courses w) :
 Calls Tryz.prog 253 #[.int .i64 1,.int .u8 b,.int .u8 f] w fun e w'=>e=.returned (jk (shM 1 b f) (ZR 1 b) true)∧Below w.heap.size w w':=by
 have hB:=hb
 clear hb
 obtain⟨d0,d1,d2,d3,d4,d5⟩:=hd
 have ka:=jA 1
 simp only[show (1:Int)%2=1 by decide] at ka
 have ht:B8 (Xk b (-1)):=Xa b (-1) hB.1 hB.2
 go_enter Tryz.func253,Tryz.ntmps253
 go_wp2_with (first
  | (go_at_call 258;refine (XY _ _ (B8.lo (by assumption)) (B8.hi (by assumption)) _).mono ?_;rintro e w' ⟨rfl,rfl⟩)
  | (go_at_call 305;refine (Q2 _ _ _ _).mono ?_;rintro e w' ⟨B,F,O,M,rfl,⟨⟨c1,c2,c3⟩,hm⟩,hb⟩;have hl:=QSA hm))
 have k0:w'.cell? ⟨w.heap.size,0,none⟩=some (.int .i64 (-1)):=cell_kept (QBG w _ _ _ _).1 hb
 have k2:w'.cell? ⟨w.heap.size,2,none⟩=some (.int .i64 7):=cell_kept (QBG w _ _ _ _).2.2 hb
 have hsz:=hb.size
 simp only[World.size_alloc] at hsz
 have hs:w'.cell? ⟨w.heap.size,0,none⟩=some (.int .i64 (-1))∧w'.cell? ⟨w.heap.size,2,none⟩=some (.int .i64 7)∧w'.cell? ⟨O,0,none⟩=some (.bool (isM b 0)):=⟨k0,k2,c3⟩
 have hb0:Below w.heap.size w w':=(by repeat (first|exact Below.refl _ _|assumption|refine JZ ?_ (by assumption)|refine Below.drew ?_|refine Below.alloc ?_ (by first|(simp;done)|(simp;omega)|omega) _|refine Below.setCell ?_ (by first|(simp;done)|(simp;omega)|omega) _))
 clear hb k0 k2 c1 c2 c3 hl hm d0 d1 d2 d3 d4 d5 ka
 go_region_held3 (fun w'=>w'.cell? ⟨w.heap.size,0,none⟩=some (.int .i64 (-1))∧w'.cell? ⟨w.heap.size,2,none⟩=some (.int .i64 7)∧w'.cell? ⟨O,0,none⟩=some (.bool (isM b 0))) (first|go_keep|exact QDI hb (by assumption))
  (first
  | (go_at_call 306;refine (je _ _ (B8.lo (by assumption)) (B8.hi (by assumption)) _).mono ?_;rintro e w' ⟨rfl,hb⟩;have hsz:=hb.size)
  | (go_at_call 331;refine (QGG O (isM b 0) _ (last3 (by assumption))).mono ?_;rintro e w' ⟨rfl,rfl⟩)
  | (go_at_call 195;refine (XS _ _ _ (B8.lo (by assumption)) (B8.hi (by assumption)) _).mono ?_;rintro e w' ⟨rfl,rfl⟩))
 go_wp2_with fail
 go_ret3
 exact⟨rfl,(by repeat (first|exact Below.refl _ _|assumption|refine JZ ?_ (by assumption)|refine Below.drew ?_|refine Below.alloc ?_ (by first|(simp;done)|(simp;omega)|omega) _|refine Below.setCell ?_ (by first|(simp;done)|(simp;omega)|omega) _))⟩
theorem QTT (b f:Int)(hb:B8 b)(hf:B8 f)(w:World)(hd:Courses w) :
 Calls Tryz.prog 253 #[.int .i64 2,.int .u8 b,.int .u8 f] w fun e w'=>e=.returned (jk (shM 2 b f) (ZR 2 b) true)∧Below w.heap.size w w':=by
 have hB:=hb
 clear hb
 obtain⟨d0,d1,d2,d3,d4,d5⟩:=hd
 have ka:=jA 2
 simp only[show (2:Int)%2=0 by decide] at ka
 have ht:B8 (Xk b 1):=Xa b 1 hB.1 hB.2
 go_enter Tryz.func253,Tryz.ntmps253
 go_wp2_with (first
  | (go_at_call 258;refine (XY _ _ (B8.lo (by assumption)) (B8.hi (by assumption)) _).mono ?_;rintro e w' ⟨rfl,rfl⟩)
  | (go_at_call 305;refine (Q2 _ _ _ _).mono ?_;rintro e w' ⟨B,F,O,M,rfl,⟨⟨c1,c2,c3⟩,hm⟩,hb⟩;have hl:=QSm hm))
 have k0:w'.cell? ⟨w.heap.size,0,none⟩=some (.int .i64 1):=cell_kept (QBG w _ _ _ _).1 hb
 have k2:w'.cell? ⟨w.heap.size,2,none⟩=some (.int .i64 0):=cell_kept (QBG w _ _ _ _).2.2 hb
 have hsz:=hb.size
 simp only[World.size_alloc] at hsz
 have hs:w'.cell? ⟨w.heap.size,0,none⟩=some (.int .i64 1)∧w'.cell? ⟨w.heap.size,2,none⟩=some (.int .i64 0)∧w'.cell? ⟨F,0,none⟩=some (.int .u8 f):=⟨k0,k2,c2⟩
 have hb0:Below w.heap.size w w':=(by repeat (first|exact Below.refl _ _|assumption|refine JZ ?_ (by assumption)|refine Below.drew ?_|refine Below.alloc ?_ (by first|(simp;done)|(simp;omega)|omega) _|refine Below.setCell ?_ (by first|(simp;done)|(simp;omega)|omega) _))
 clear hb k0 k2 c1 c2 c3 hl hm d0 d1 d2 d3 d4 d5 ka
 go_region_held3 (fun w'=>w'.cell? ⟨w.heap.size,0,none⟩=some (.int .i64 1)∧w'.cell? ⟨w.heap.size,2,none⟩=some (.int .i64 0)∧w'.cell? ⟨F,0,none⟩=some (.int .u8 f)) (first|go_keep|exact QDI hb (by assumption))
  (first
  | (go_at_call 306;refine (je _ _ (B8.lo (by assumption)) (B8.hi (by assumption)) _).mono ?_;rintro e w' ⟨rfl,hb⟩;have hsz:=hb.size)
  | (go_at_call 332;refine (QC1 F f hf _ (last3 (by assumption))).mono ?_;rintro e w' ⟨rfl,rfl⟩)
  | (go_at_call 195;refine (XS _ _ _ (B8.lo (by assumption)) (B8.hi (by assumption)) _).mono ?_;rintro e w' ⟨rfl,rfl⟩))
 go_wp2_with fail
 go_ret3
 exact⟨rfl,(by repeat (first|exact Below.refl _ _|assumption|refine JZ ?_ (by assumption)|refine Below.drew ?_|refine Below.alloc ?_ (by first|(simp;done)|(simp;omega)|omega) _|refine Below.setCell ?_ (by first|(simp;done)|(simp;omega)|omega) _))⟩
theorem QSL (b f:Int)(hb:B8 b)(hf:B8 f)(w:World)(hd:Courses w) :
 Calls Tryz.prog 253 #[.int .i64 3,.int .u8 b,.int .u8 f] w fun e w'=>e=.returned (jk (shM 3 b f) (ZR 3 b) true)∧Below w.heap.size w w':=by
 have hB:=hb
 clear hb
 obtain⟨d0,d1,d2,d3,d4,d5⟩:=hd
 have ka:=jA 3
 simp only[show (3:Int)%2=1 by decide] at ka
 have ht:B8 (Xk b (-1)):=Xa b (-1) hB.1 hB.2
 go_enter Tryz.func253,Tryz.ntmps253
 go_wp2_with (first
  | (go_at_call 258;refine (XY _ _ (B8.lo (by assumption)) (B8.hi (by assumption)) _).mono ?_;rintro e w' ⟨rfl,rfl⟩)
  | (go_at_call 305;refine (Q2 _ _ _ _).mono ?_;rintro e w' ⟨B,F,O,M,rfl,⟨⟨c1,c2,c3⟩,hm⟩,hb⟩;have hl:=QS5 hm))
 have k0:w'.cell? ⟨w.heap.size,0,none⟩=some (.int .i64 (-1)):=cell_kept (QBG w _ _ _ _).1 hb
 have k2:w'.cell? ⟨w.heap.size,2,none⟩=some (.int .i64 7):=cell_kept (QBG w _ _ _ _).2.2 hb
 have hsz:=hb.size
 simp only[World.size_alloc] at hsz
 have hs:w'.cell? ⟨w.heap.size,0,none⟩=some (.int .i64 (-1))∧w'.cell? ⟨w.heap.size,2,none⟩=some (.int .i64 7)∧w'.cell? ⟨F,0,none⟩=some (.int .u8 f):=⟨k0,k2,c2⟩
 have hb0:Below w.heap.size w w':=(by repeat (first|exact Below.refl _ _|assumption|refine JZ ?_ (by assumption)|refine Below.drew ?_|refine Below.alloc ?_ (by first|(simp;done)|(simp;omega)|omega) _|refine Below.setCell ?_ (by first|(simp;done)|(simp;omega)|omega) _))
 clear hb k0 k2 c1 c2 c3 hl hm d0 d1 d2 d3 d4 d5 ka
 go_region_held3 (fun w'=>w'.cell? ⟨w.heap.size,0,none⟩=some (.int .i64 (-1))∧w'.cell? ⟨w.heap.size,2,none⟩=some (.int .i64 7)∧w'.cell? ⟨F,0,none⟩=some (.int .u8 f)) (first|go_keep|exact QDI hb (by assumption))
  (first
  | (go_at_call 306;refine (je _ _ (B8.lo (by assumption)) (B8.hi (by assumption)) _).mono ?_;rintro e w' ⟨rfl,hb⟩;have hsz:=hb.size)
  | (go_at_call 332;refine (QC1 F f hf _ (last3 (by assumption))).mono ?_;rintro e w' ⟨rfl,rfl⟩)
  | (go_at_call 195;refine (XS _ _ _ (B8.lo (by assumption)) (B8.hi (by assumption)) _).mono ?_;rintro e w' ⟨rfl,rfl⟩))
 go_wp2_with fail
 go_ret3
 exact⟨rfl,(by repeat (first|exact Below.refl _ _|assumption|refine JZ ?_ (by assumption)|refine Below.drew ?_|refine Below.alloc ?_ (by first|(simp;done)|(simp;omega)|omega) _|refine Below.setCell ?_ (by first|(simp;done)|(simp;omega)|omega) _))⟩
theorem QST (b f:Int)(hb:B8 b)(hf:B8 f)(w:World)(hd:Courses w) :
 Calls Tryz.prog 253 #[.int .i64 4,.int .u8 b,.int .u8 f] w fun e w'=>e=.returned (jk (shM 4 b f) (ZR 4 b) true)∧Below w.heap.size w w':=by
 have hB:=hb
 clear hb
 obtain⟨d0,d1,d2,d3,d4,d5⟩:=hd
 have ka:=jA 4
 simp only[show (4:Int)%2=0 by decide] at ka
 have ht:B8 (Xk b 1):=Xa b 1 hB.1 hB.2
 go_enter Tryz.func253,Tryz.ntmps253
 go_wp2_with (first
  | (go_at_call 258;refine (XY _ _ (B8.lo (by assumption)) (B8.hi (by assumption)) _).mono ?_;rintro e w' ⟨rfl,rfl⟩)
  | (go_at_call 305;refine (Q2 _ _ _ _).mono ?_;rintro e w' ⟨B,F,O,M,rfl,⟨⟨c1,c2,c3⟩,hm⟩,hb⟩;have hl:=QSN hm))
 have k0:w'.cell? ⟨w.heap.size,0,none⟩=some (.int .i64 1):=cell_kept (QBG w _ _ _ _).1 hb
 have k2:w'.cell? ⟨w.heap.size,2,none⟩=some (.int .i64 0):=cell_kept (QBG w _ _ _ _).2.2 hb
 have hsz:=hb.size
 simp only[World.size_alloc] at hsz
 have hs:w'.cell? ⟨w.heap.size,0,none⟩=some (.int .i64 1)∧w'.cell? ⟨w.heap.size,2,none⟩=some (.int .i64 0)∧w'.cell? ⟨O,0,none⟩=some (.bool (isM b 7)):=⟨k0,k2,c3⟩
 have hb0:Below w.heap.size w w':=(by repeat (first|exact Below.refl _ _|assumption|refine JZ ?_ (by assumption)|refine Below.drew ?_|refine Below.alloc ?_ (by first|(simp;done)|(simp;omega)|omega) _|refine Below.setCell ?_ (by first|(simp;done)|(simp;omega)|omega) _))
 clear hb k0 k2 c1 c2 c3 hl hm d0 d1 d2 d3 d4 d5 ka
 go_region_held3 (fun w'=>w'.cell? ⟨w.heap.size,0,none⟩=some (.int .i64 1)∧w'.cell? ⟨w.heap.size,2,none⟩=some (.int .i64 0)∧w'.cell? ⟨O,0,none⟩=some (.bool (isM b 7))) (first|go_keep|exact QDI hb (by assumption))
  (first
  | (go_at_call 306;refine (je _ _ (B8.lo (by assumption)) (B8.hi (by assumption)) _).mono ?_;rintro e w' ⟨rfl,hb⟩;have hsz:=hb.size)
  | (go_at_call 333;refine (QEw _).mono ?_;rintro e w' ⟨rfl,rfl⟩)
  | (go_at_call 195;refine (XS _ _ _ (B8.lo (by assumption)) (B8.hi (by assumption)) _).mono ?_;rintro e w' ⟨rfl,rfl⟩))
 go_wp2_with fail
 go_ret3
 exact⟨rfl,(by repeat (first|exact Below.refl _ _|assumption|refine JZ ?_ (by assumption)|refine Below.drew ?_|refine Below.alloc ?_ (by first|(simp;done)|(simp;omega)|omega) _|refine Below.setCell ?_ (by first|(simp;done)|(simp;omega)|omega) _))⟩
theorem QR5 (b f:Int)(hb:B8 b)(hf:B8 f)(w:World)(hd:Courses w) :
 Calls Tryz.prog 253 #[.int .i64 5,.int .u8 b,.int .u8 f] w fun e w'=>e=.returned (jk (shM 5 b f) (ZR 5 b) true)∧Below w.heap.size w w':=by
 have hB:=hb
 clear hb
 obtain⟨d0,d1,d2,d3,d4,d5⟩:=hd
 have ka:=jA 5
 simp only[show (5:Int)%2=1 by decide] at ka
 have ht:B8 (Xk b (-1)):=Xa b (-1) hB.1 hB.2
 go_enter Tryz.func253,Tryz.ntmps253
 go_wp2_with (first
  | (go_at_call 258;refine (XY _ _ (B8.lo (by assumption)) (B8.hi (by assumption)) _).mono ?_;rintro e w' ⟨rfl,rfl⟩)
  | (go_at_call 305;refine (Q2 _ _ _ _).mono ?_;rintro e w' ⟨B,F,O,M,rfl,⟨⟨c1,c2,c3⟩,hm⟩,hb⟩;have hl:=QR6 hm))
 have k0:w'.cell? ⟨w.heap.size,0,none⟩=some (.int .i64 (-1)):=cell_kept (QBG w _ _ _ _).1 hb
 have k2:w'.cell? ⟨w.heap.size,2,none⟩=some (.int .i64 7):=cell_kept (QBG w _ _ _ _).2.2 hb
 have hsz:=hb.size
 simp only[World.size_alloc] at hsz
 have hs:w'.cell? ⟨w.heap.size,0,none⟩=some (.int .i64 (-1))∧w'.cell? ⟨w.heap.size,2,none⟩=some (.int .i64 7)∧w'.cell? ⟨B,0,none⟩=some (.int .u8 b):=⟨k0,k2,c1⟩
 have hb0:Below w.heap.size w w':=(by repeat (first|exact Below.refl _ _|assumption|refine JZ ?_ (by assumption)|refine Below.drew ?_|refine Below.alloc ?_ (by first|(simp;done)|(simp;omega)|omega) _|refine Below.setCell ?_ (by first|(simp;done)|(simp;omega)|omega) _))
 clear hb k0 k2 c1 c2 c3 hl hm d0 d1 d2 d3 d4 d5 ka
 go_region_held3 (fun w'=>w'.cell? ⟨w.heap.size,0,none⟩=some (.int .i64 (-1))∧w'.cell? ⟨w.heap.size,2,none⟩=some (.int .i64 7)∧w'.cell? ⟨B,0,none⟩=some (.int .u8 b)) (first|go_keep|exact QDI hb (by assumption))
  (first
  | (go_at_call 306;refine (je _ _ (B8.lo (by assumption)) (B8.hi (by assumption)) _).mono ?_;rintro e w' ⟨rfl,hb⟩;have hsz:=hb.size)
  | (go_at_call 334;refine (QLu B b hB _ (last3 (by assumption))).mono ?_;rintro e w' ⟨rfl,rfl⟩)
  | (go_at_call 195;refine (XS _ _ _ (B8.lo (by assumption)) (B8.hi (by assumption)) _).mono ?_;rintro e w' ⟨rfl,rfl⟩))
 go_wp2_with fail
 go_ret3
 exact⟨rfl,(by repeat (first|exact Below.refl _ _|assumption|refine JZ ?_ (by assumption)|refine Below.drew ?_|refine Below.alloc ?_ (by first|(simp;done)|(simp;omega)|omega) _|refine Below.setCell ?_ (by first|(simp;done)|(simp;omega)|omega) _))⟩
theorem QS4 (b f:Int)(hb:B8 b)(hf:B8 f)(w:World)(hd:Courses w) :
 Calls Tryz.prog 253 #[.int .i64 6,.int .u8 b,.int .u8 f] w fun e w'=>e=.returned (jk (shM 6 b f) (ZR 6 b) true)∧Below w.heap.size w w':=by
 have hB:=hb
 clear hb
 obtain⟨d0,d1,d2,d3,d4,d5⟩:=hd
 have ka:=jA 6
 simp only[show (6:Int)%2=0 by decide] at ka
 have ht:B8 (Xk b 1):=Xa b 1 hB.1 hB.2
 go_enter Tryz.func253,Tryz.ntmps253
 go_wp2_with (first
  | (go_at_call 258;refine (XY _ _ (B8.lo (by assumption)) (B8.hi (by assumption)) _).mono ?_;rintro e w' ⟨rfl,rfl⟩)
  | (go_at_call 305;refine (Q2 _ _ _ _).mono ?_;rintro e w' ⟨B,F,O,M,rfl,⟨⟨c1,c2,c3⟩,hm⟩,hb⟩;have hl:=QSK hm))
 have k0:w'.cell? ⟨w.heap.size,0,none⟩=some (.int .i64 1):=cell_kept (QBG w _ _ _ _).1 hb
 have k2:w'.cell? ⟨w.heap.size,2,none⟩=some (.int .i64 0):=cell_kept (QBG w _ _ _ _).2.2 hb
 have hsz:=hb.size
 simp only[World.size_alloc] at hsz
 have hs:w'.cell? ⟨w.heap.size,0,none⟩=some (.int .i64 1)∧w'.cell? ⟨w.heap.size,2,none⟩=some (.int .i64 0)∧w'.cell? ⟨O,0,none⟩=some (.bool (isM b 7)):=⟨k0,k2,c3⟩
 have hb0:Below w.heap.size w w':=(by repeat (first|exact Below.refl _ _|assumption|refine JZ ?_ (by assumption)|refine Below.drew ?_|refine Below.alloc ?_ (by first|(simp;done)|(simp;omega)|omega) _|refine Below.setCell ?_ (by first|(simp;done)|(simp;omega)|omega) _))
 clear hb k0 k2 c1 c2 c3 hl hm d0 d1 d2 d3 d4 d5 ka
 go_region_held3 (fun w'=>w'.cell? ⟨w.heap.size,0,none⟩=some (.int .i64 1)∧w'.cell? ⟨w.heap.size,2,none⟩=some (.int .i64 0)∧w'.cell? ⟨O,0,none⟩=some (.bool (isM b 7))) (first|go_keep|exact QDI hb (by assumption))
  (first
  | (go_at_call 306;refine (je _ _ (B8.lo (by assumption)) (B8.hi (by assumption)) _).mono ?_;rintro e w' ⟨rfl,hb⟩;have hsz:=hb.size)
  | (go_at_call 335;refine (QMH _).mono ?_;rintro e w' ⟨rfl,rfl⟩)
  | (go_at_call 195;refine (XS _ _ _ (B8.lo (by assumption)) (B8.hi (by assumption)) _).mono ?_;rintro e w' ⟨rfl,rfl⟩))
 go_wp2_with fail
 go_ret3
 exact⟨rfl,(by repeat (first|exact Below.refl _ _|assumption|refine JZ ?_ (by assumption)|refine Below.drew ?_|refine Below.alloc ?_ (by first|(simp;done)|(simp;omega)|omega) _|refine Below.setCell ?_ (by first|(simp;done)|(simp;omega)|omega) _))⟩
theorem QRz (b f:Int)(hb:B8 b)(hf:B8 f)(w:World)(hd:Courses w) :
 Calls Tryz.prog 253 #[.int .i64 7,.int .u8 b,.int .u8 f] w fun e w'=>e=.returned (jk (shM 7 b f) (ZR 7 b) true)∧Below w.heap.size w w':=by
 have hB:=hb
 clear hb
 obtain⟨d0,d1,d2,d3,d4,d5⟩:=hd
 have ka:=jA 7
 simp only[show (7:Int)%2=1 by decide] at ka
 have ht:B8 (Xk b (-1)):=Xa b (-1) hB.1 hB.2
 go_enter Tryz.func253,Tryz.ntmps253
 go_wp2_with (first
  | (go_at_call 258;refine (XY _ _ (B8.lo (by assumption)) (B8.hi (by assumption)) _).mono ?_;rintro e w' ⟨rfl,rfl⟩)
  | (go_at_call 305;refine (Q2 _ _ _ _).mono ?_;rintro e w' ⟨B,F,O,M,rfl,⟨⟨c1,c2,c3⟩,hm⟩,hb⟩;have hl:=QTR hm))
 have k0:w'.cell? ⟨w.heap.size,0,none⟩=some (.int .i64 (-1)):=cell_kept (QBG w _ _ _ _).1 hb
 have k2:w'.cell? ⟨w.heap.size,2,none⟩=some (.int .i64 7):=cell_kept (QBG w _ _ _ _).2.2 hb
 have hsz:=hb.size
 simp only[World.size_alloc] at hsz
 have hs:w'.cell? ⟨w.heap.size,0,none⟩=some (.int .i64 (-1))∧w'.cell? ⟨w.heap.size,2,none⟩=some (.int .i64 7)∧w'.cell? ⟨O,0,none⟩=some (.bool (isM b 0)):=⟨k0,k2,c3⟩
 have hb0:Below w.heap.size w w':=(by repeat (first|exact Below.refl _ _|assumption|refine JZ ?_ (by assumption)|refine Below.drew ?_|refine Below.alloc ?_ (by first|(simp;done)|(simp;omega)|omega) _|refine Below.setCell ?_ (by first|(simp;done)|(simp;omega)|omega) _))
 clear hb k0 k2 c1 c2 c3 hl hm d0 d1 d2 d3 d4 d5 ka
 go_region_held3 (fun w'=>w'.cell? ⟨w.heap.size,0,none⟩=some (.int .i64 (-1))∧w'.cell? ⟨w.heap.size,2,none⟩=some (.int .i64 7)∧w'.cell? ⟨O,0,none⟩=some (.bool (isM b 0))) (first|go_keep|exact QDI hb (by assumption))
  (first
  | (go_at_call 306;refine (je _ _ (B8.lo (by assumption)) (B8.hi (by assumption)) _).mono ?_;rintro e w' ⟨rfl,hb⟩;have hsz:=hb.size)
  | (go_at_call 333;refine (QEw _).mono ?_;rintro e w' ⟨rfl,rfl⟩)
  | (go_at_call 195;refine (XS _ _ _ (B8.lo (by assumption)) (B8.hi (by assumption)) _).mono ?_;rintro e w' ⟨rfl,rfl⟩))
 go_wp2_with fail
 go_ret3
 exact⟨rfl,(by repeat (first|exact Below.refl _ _|assumption|refine JZ ?_ (by assumption)|refine Below.drew ?_|refine Below.alloc ?_ (by first|(simp;done)|(simp;omega)|omega) _|refine Below.setCell ?_ (by first|(simp;done)|(simp;omega)|omega) _))⟩
theorem QIs (k b f:Int)(h0:0≤k)(h1:k < 8)(hb:B8 b)(hf:B8 f)(w:World)(hd:Courses w) :
 Calls Tryz.prog 253 #[.int .i64 k,.int .u8 b,.int .u8 f] w fun e w'=>e=.returned (jk (shM k b f) (ZR k b) true)∧Below w.heap.size w w':=by
 obtain rfl|rfl|rfl|rfl|rfl|rfl|rfl|rfl:k=0∨k=1∨k=2∨k=3∨k=4∨k=5∨k=6∨k=7:=by omega
 · exact QSV b f hb hf w hd
 · exact QSC b f hb hf w hd
 · exact QTT b f hb hf w hd
 · exact QSL b f hb hf w hd
 · exact QST b f hb hf w hd
 · exact QR5 b f hb hf w hd
 · exact QS4 b f hb hf w hd
 · exact QRz b f hb hf w hd
theorem QK9 (k b f:Int)(hk:k < 0∨8≤k)(hb:B8 b)(hf:B8 f)(w:World)(hd:Courses w) :
 Calls Tryz.prog 253 #[.int .i64 k,.int .u8 b,.int .u8 f] w fun e w'=>e=.returned (jk 0 false false)∧Below w.heap.size w w':=by
 have hB:=hb
 clear hb
 obtain⟨d0,d1,d2,d3,d4,d5⟩:=hd
 have ka:=jA k
 have hk:=Lib.hid hk
 obtain h2|h2:k%2=0∨k%2=1:=by omega
 all_goals
  rw[h2] at ka
  clear h2
  go_enter Tryz.func253,Tryz.ntmps253
  go_wp2_with (first
   | (go_at_call 258;refine (XY _ _ (B8.lo (by assumption)) (B8.hi (by assumption)) _).mono ?_;rintro e w' ⟨rfl,rfl⟩)
   | (go_at_call 305;refine (Q2 _ _ _ _).mono ?_;rintro e w' ⟨B,F,O,M,rfl,⟨⟨c1,c2,c3⟩,hm⟩,hb⟩;have hl:=QRN hk.out hm))
  go_ret3
  have hsz:=hb.size
  simp only[World.size_alloc] at hsz
  exact⟨rfl,(by repeat (first|exact Below.refl _ _|assumption|refine JZ ?_ (by assumption)|refine Below.drew ?_|refine Below.alloc ?_ (by first|(simp;done)|(simp;omega)|omega) _|refine Below.setCell ?_ (by first|(simp;done)|(simp;omega)|omega) _))⟩
def Ja:Rg:=⟨0,0,0,0,0,0,0,0,0,0,0,0,0,0,0,false,false,false,false,0⟩
def QBl (w:World):Prop:=w.cell? ⟨1,0,none⟩=some (.int .i64 0)∧w.cell? ⟨1,1,none⟩=some (.int .i64 0)∧w.cell? ⟨1,2,none⟩=some (.int .i64 1)∧w.cell? ⟨1,3,none⟩=some (.int .i64 2)
structure Tabs (w:World)(B:Nat):Prop where
 masks:Masks w
 courses:Courses w
 digits:Digits w
 modes:QBl w
 gMasks:3 < B
 gCourses:2 < B
 gDigits:4 < B
 gModes:1 < B
theorem Tabs.keep {w w':World} {B:Nat}(h:Tabs w B)(k:∀ b,b < B→w'.heap[b]? = w.heap[b]?):Tabs w' B:=by
 have c:∀ g i V,g < B→w.cell? ⟨g,i,none⟩=some V→w'.cell? ⟨g,i,none⟩=some V:=fun g i V hg hc=>(World.cell?_of_block (k g hg)).trans hc
 obtain⟨m,cs,d,mo,g1,g2,g3,g4⟩:=h
 refine⟨?_,?_,?_,?_,g1,g2,g3,g4⟩
 · unfold Masks at m ⊢;simp only[c _ _ _ g1 m.1,c _ _ _ g1 m.2.1,c _ _ _ g1 m.2.2.1,c _ _ _ g1 m.2.2.2,and_self]
 · unfold Courses at cs ⊢;simp only[c _ _ _ g2 cs.1,c _ _ _ g2 cs.2.1,c _ _ _ g2 cs.2.2.1,c _ _ _ g2 cs.2.2.2.1,c _ _ _ g2 cs.2.2.2.2.1,c _ _ _ g2 cs.2.2.2.2.2,and_self]
 · unfold Digits at d ⊢;simp only[c _ _ _ g3 d.1,c _ _ _ g3 d.2.1,c _ _ _ g3 d.2.2.1,c _ _ _ g3 d.2.2.2.1,c _ _ _ g3 d.2.2.2.2.1,c _ _ _ g3 d.2.2.2.2.2.1,c _ _ _ g3 d.2.2.2.2.2.2.1,c _ _ _ g3 d.2.2.2.2.2.2.2,and_self]
 · unfold QBl at mo ⊢;simp only[c _ _ _ g4 mo.1,c _ _ _ g4 mo.2.1,c _ _ _ g4 mo.2.2.1,c _ _ _ g4 mo.2.2.2,and_self]
theorem Besides.drew {A S:Nat} {a w:World}(h:Besides A S a w):Besides A S a w.drew:=⟨h.os,h.tape,h.output,h.size,h.block⟩
theorem Besides.setCells {A S:Nat} {a:World} {b:Nat}(hb:b=A∨b=S∨a.heap.size≤b):∀ (vs:List Value) (o:Nat) {w:World},Besides A S a w→Besides A S a (w.setCells b o vs)
 | [],_,_,h=>h
 | v :: r,o,_,h=>Besides.setCells hb r (o+1) (h.setCell (p:=⟨b,o,none⟩) hb v)
theorem Row.drew {w:World} {g:Nat} {t:TypeId} {cs:Array Value}(h:Row w g t cs):Row w.drew g t cs:=h
theorem BytesIn.drew {w:World} {B:Nat} {A:Option Addr} {xs:List Int}(h:BytesIn w B A xs):BytesIn w.drew B A xs:=h
@[reducible] def mC (s:Ms)(A:Option Addr)(n cap:Nat):Array Value:=#[.int .u16 s.r.af,.int .u16 s.r.bc,.int .u16 s.r.de,.int .u16 s.r.hl,.int .u16 s.r.af2,.int .u16 s.r.bc2,.int .u16 s.r.de2,.int .u16 s.r.hl2,.int .u16 s.r.ix,.int .u16 s.r.iy,.int .u16 s.r.sp,.int .u16 s.r.pc,.int .u16 s.r.wz,.int .u8 s.r.i,.int .u8 s.r.r,.bool s.r.iff1,.bool s.r.iff2,.bool s.r.halted,.bool s.r.late,.int .i64 s.r.mode,.slice A n cap,.int .i64 s.plane,.int .i64 s.x,.int .i64 s.y,.int .i64 s.z,.int .i64 s.p,.int .i64 s.q,.int .u16 s.spot,.bool s.near]
structure AtN (w:World)(p B:Nat)(s:Ms)(xs:List Int):Prop where
 row:∃ A cap,xs.length≤cap∧Row w p 118 (mC s A xs.length cap)∧BytesIn w B A xs
 low:B≤p
 bytes:Bytes8 xs
 ms:MsB s
 tabs:Tabs w B
theorem AtN.lt {w:World} {p B:Nat} {s:Ms} {xs:List Int}(h:AtN w p B s xs):p < w.heap.size:=by
 obtain⟨A,cap,hc,hr,hb⟩:=h.row
 exact hr.lt
theorem AtN.below {w w':World} {p B:Nat} {s:Ms} {xs:List Int}(h:AtN w p B s xs)(k:Below w.heap.size w w'):AtN w' p B s xs:=by
 have hp:=h.lt
 obtain⟨⟨A,cap,hc,hr,hb⟩,hl,h8,hm,ht⟩:=h
 exact⟨⟨A,cap,hc,hr.below k hp,hb.keep fun b hlt=>k.block b (by omega)⟩,hl,h8,hm,ht.keep fun b hlt=>k.block b (by omega)⟩
theorem AtN.drew {w:World} {p B:Nat} {s:Ms} {xs:List Int}(h:AtN w p B s xs):AtN w.drew p B s xs:=by
 obtain⟨⟨A,cap,hc,hr,hb⟩,hl,h8,hm,ht⟩:=h
 exact⟨⟨A,cap,hc,hr,hb⟩,hl,h8,hm,ht.keep fun _ _=>rfl⟩
theorem AtN.cell {w:World} {p B:Nat} {s:Ms} {xs:List Int}(h:AtN w p B s xs)(i:Nat)(V:Value)(hV:∀ A n cap,(mC s A n cap)[i]? = some V):w.cell? ⟨p,i,none⟩=some V:=by
 obtain⟨A,cap,hc,hr,hb⟩:=h.row
 rw[hr.cell i]
 exact hV ..
theorem AtN.frozen {w:World} {p B:Nat} {s:Ms} {xs:List Int}(h:AtN w p B s xs)(i:Nat):w.frozen? ⟨p,i,none⟩=false:=by
 obtain⟨A,cap,hc,hr,hb⟩:=h.row
 exact hr.frozen i
theorem AtN.regs {w:World} {p B:Nat} {s:Ms} {xs:List Int}(h:AtN w p B s xs):w.rangeAt p 0 (JJ s.r).toList:=by
 obtain⟨A,cap,hc,hr,hb⟩:=h.row
 intro j v hv
 rw[Nat.zero_add,hr.cell j]
 have hj:j < 20:=(List.getElem?_eq_some_iff.1 hv).1
 revert hv
 match j,hj with

 | 0,_=>exact id
 | 1,_=>exact id
 | 2,_=>exact id
 | 3,_=>exact id
 | 4,_=>exact id
 | 5,_=>exact id
 | 6,_=>exact id
 | 7,_=>exact id
 | 8,_=>exact id
 | 9,_=>exact id
 | 10,_=>exact id
 | 11,_=>exact id
 | 12,_=>exact id
 | 13,_=>exact id
 | 14,_=>exact id
 | 15,_=>exact id
 | 16,_=>exact id
 | 17,_=>exact id
 | 18,_=>exact id
 | 19,_=>exact id
 | n+20,h=>omega
theorem AtN.set {w:World} {p B:Nat} {s:Ms} {xs:List Int}(h:AtN w p B s xs)(i:Nat)(v:Value)(s':Ms)(hs:∀ A n cap,(mC s A n cap).setIfInBounds i v=mC s' A n cap)(hb:MsB s'):AtN (w.setCell ⟨p,i,none⟩ v) p B s' xs:=by
 have hp:=h.lt
 obtain⟨⟨A,cap,hc,hr,hby⟩,hl,h8,hm,ht⟩:=h
 have k:∀ b,b < B→(w.setCell ⟨p,i,none⟩ v).heap[b]? = w.heap[b]?:=fun b hlt=>Below.heap_setCell w _ v b (by show b≠p;omega)
 refine⟨⟨A,cap,hc,?_,hby.keep k⟩,hl,h8,hb,ht.keep k⟩
 have:=hr.set i v
 rwa [hs] at this
theorem q4 (b:Nat)(c:Nat)(hb:c≠b):∀ (vs:List Value) (o:Nat) (w:World),(w.setCells b o vs).heap[c]? = w.heap[c]?
 | [],_,_=>rfl
 | v :: r,o,w=>(q4 b c hb r (o+1) _).trans (Below.heap_setCell w ⟨b,o,none⟩ v c hb)
structure NowN (w0:World)(p B:Nat)(s:Ms)(xs:List Int)(w:World):Prop where
 at_:AtN w p B s xs
 bes:Besides p p w0 w
theorem NowN.begin {w:World} {p B:Nat} {s:Ms} {xs:List Int}(h:AtN w p B s xs):NowN w p B s xs w:=⟨h,.refl ..⟩
theorem NowN.below {w0 w w':World} {p B:Nat} {s:Ms} {xs:List Int}(h:NowN w0 p B s xs w)(k:Below w.heap.size w w'):NowN w0 p B s xs w':=⟨h.at_.below k,h.bes.trans (.of_below k)⟩
theorem NowN.drew {w0 w:World} {p B:Nat} {s:Ms} {xs:List Int}(h:NowN w0 p B s xs w):NowN w0 p B s xs w.drew:=⟨h.at_.drew,h.bes.drew⟩
theorem NowN.set {w0 w:World} {p B:Nat} {s:Ms} {xs:List Int}(h:NowN w0 p B s xs w)(i:Nat)(v:Value)(s':Ms)(hs:∀ A n cap,(mC s A n cap).setIfInBounds i v=mC s' A n cap)(hb:MsB s'):NowN w0 p B s' xs (w.setCell ⟨p,i,none⟩ v) :=
 ⟨h.at_.set i v s' hs hb,h.bes.setCell (.inl rfl) v⟩
def kB:IntKind→Int→Prop
 | .u8,v=>B8 v
 | .u16,v=>Wd16 v
 | _,_=>True
def CyW (c:Cy):Prop:=Wd16 c.addr∧B8 c.data
structure BesC (p:Nat)(c:Cy)(w w':World):Prop where
 bes:Besides p p w w'
 cyw:CyW c
theorem BesC.after {p:Nat} {c:Cy} {a b d:World}(k:BesC p c b d)(h:Besides p p a b):BesC p c a d:=⟨h.trans k.bes,k.cyw⟩
def OutI (w0:World)(p B:Nat)(k:IntKind):Except Cy ((Int×Ms)×List Int)→Ending→World→Prop
 | .ok ((v,s),ys),e,w'=>e=.returned (.int k v)∧kB k v∧NowN w0 p B s ys w'
 | .error c,e,w'=>e=.panicked [{ v:=.iface 29 (cyV c),recovered:=false }]∧BesC p c w0 w'
def OutV (w0:World)(p B:Nat):Except Cy (Ms×List Int)→Ending→World→Prop
 | .ok (s,ys),e,w'=>e=.returned (.tuple #[])∧NowN w0 p B s ys w'
 | .error c,e,w'=>e=.panicked [{ v:=.iface 29 (cyV c),recovered:=false }]∧BesC p c w0 w'
theorem OutI.ok {w0 w:World} {p B:Nat} {k:IntKind} {X:Except Cy ((Int×Ms)×List Int)} {v:Int} {s:Ms} {ys:List Int}(h:X=.ok ((v,s),ys))(hk:kB k v)(hn:NowN w0 p B s ys w):OutI w0 p B k X (.returned (.int k v)) w:=by
 subst h
 exact⟨rfl,hk,hn⟩
theorem OutI.err {w0 w:World} {p B:Nat} {k:IntKind} {X:Except Cy ((Int×Ms)×List Int)} {c:Cy}(h:X=.error c)(hb:BesC p c w0 w):OutI w0 p B k X (.panicked [{ v:=.iface 29 (cyV c),recovered:=false }]) w:=by
 subst h
 exact⟨rfl,hb⟩
theorem OutV.ok {w0 w:World} {p B:Nat} {X:Except Cy (Ms×List Int)} {s:Ms} {ys:List Int}(h:X=.ok (s,ys))(hn:NowN w0 p B s ys w):OutV w0 p B X (.returned (.tuple #[])) w:=by
 subst h
 exact⟨rfl,hn⟩
theorem OutV.err {w0 w:World} {p B:Nat} {X:Except Cy (Ms×List Int)} {c:Cy}(h:X=.error c)(hb:BesC p c w0 w):OutV w0 p B X (.panicked [{ v:=.iface 29 (cyV c),recovered:=false }]) w:=by
 subst h
 exact⟨rfl,hb⟩
theorem NowN.after {w0 w w':World} {p B:Nat} {s s':Ms} {xs xs':List Int}(h:NowN w0 p B s xs w)(k:NowN w p B s' xs' w'):NowN w0 p B s' xs' w':=⟨k.at_,h.bes.trans k.bes⟩
section
variable {ops:Array Oper} {Q:Exit→Act→World→Prop} {a:Act} {w w0:World} {o:Oper} {rest:List Oper} {p B:Nat} {s0:Ms} {xs0:List Int}
theorem QBU {k:IntKind} {X:Except Cy ((Int×Ms)×List Int)} {g:FuncId} {args:Array Value}(hn:NowN w0 p B s0 xs0 w)(hg:o.guard=none)(he:(execOp a.eval o).run Tryz.prog w=.ok (.enter g args) w)(hc:Calls Tryz.prog g args w (OutI w p B k X))
 (hP:∀ c w',X=.error c→BesC p c w0 w'→Q (.panic [{ v:=.iface 29 (cyV c),recovered:=false }]) a w')
 (hK:∀ v s ys w',X=.ok ((v,s),ys)→kB k v→NowN w0 p B s ys w'→WL Tryz.prog ops Q rest (a.put o.dst (.int k v)) w'):WL Tryz.prog ops Q (o :: rest) a w :=
 Q9 (JN hg) he hc fun e w' ho=>by
  rcases X with c|⟨⟨v,s⟩,ys⟩
  · obtain⟨rfl,hb⟩:=ho
    exact hP c w' rfl (hb.after hn.bes)
  · obtain⟨rfl,hk,hN⟩:=ho
    exact hK v s ys w' rfl hk (hn.after hN)
theorem ZE {X:Except Cy (Ms×List Int)} {g:FuncId} {args:Array Value}(hn:NowN w0 p B s0 xs0 w)(hg:o.guard=none)(he:(execOp a.eval o).run Tryz.prog w=.ok (.enter g args) w)(hc:Calls Tryz.prog g args w (OutV w p B X))
 (hP:∀ c w',X=.error c→BesC p c w0 w'→Q (.panic [{ v:=.iface 29 (cyV c),recovered:=false }]) a w')
 (hK:∀ s ys w',X=.ok (s,ys)→NowN w0 p B s ys w'→WL Tryz.prog ops Q rest (a.put o.dst (.tuple #[])) w'):WL Tryz.prog ops Q (o :: rest) a w :=
 Q9 (JN hg) he hc fun e w' ho=>by
  rcases X with c|⟨s,ys⟩
  · obtain⟨rfl,hb⟩:=ho
    exact hP c w' rfl (hb.after hn.bes)
  · obtain⟨rfl,hN⟩:=ho
    exact hK s ys w' rfl (hn.after hN)
end
def Ms.u_af (s:Ms)(v:Int):Ms:={ s with r:={ s.r with af:=v } }
theorem MsB.u_af {s:Ms}(h:MsB s){v:Int}(hv:Wd16 v):MsB (s.u_af v):=⟨⟨hv,h.r.bc,h.r.de,h.r.hl,h.r.af2,h.r.bc2,h.r.de2,h.r.hl2,h.r.ix,h.r.iy,h.r.sp,h.r.pc,h.r.wz,h.r.i,h.r.r,h.r.mode⟩,h.plane,h.x,h.y,h.z,h.p,h.q,h.spot⟩
def Ms.u_bc (s:Ms)(v:Int):Ms:={ s with r:={ s.r with bc:=v } }
theorem MsB.u_bc {s:Ms}(h:MsB s){v:Int}(hv:Wd16 v):MsB (s.u_bc v):=⟨⟨h.r.af,hv,h.r.de,h.r.hl,h.r.af2,h.r.bc2,h.r.de2,h.r.hl2,h.r.ix,h.r.iy,h.r.sp,h.r.pc,h.r.wz,h.r.i,h.r.r,h.r.mode⟩,h.plane,h.x,h.y,h.z,h.p,h.q,h.spot⟩
def Ms.u_de (s:Ms)(v:Int):Ms:={ s with r:={ s.r with de:=v } }
theorem QT7 (s:Ms)(v:Int)(A:Option Addr)(n cap:Nat):(mC s A n cap).setIfInBounds 2 (.int .u16 v)=mC (s.u_de v) A n cap:=rfl
theorem MsB.u_de {s:Ms}(h:MsB s){v:Int}(hv:Wd16 v):MsB (s.u_de v):=⟨⟨h.r.af,h.r.bc,hv,h.r.hl,h.r.af2,h.r.bc2,h.r.de2,h.r.hl2,h.r.ix,h.r.iy,h.r.sp,h.r.pc,h.r.wz,h.r.i,h.r.r,h.r.mode⟩,h.plane,h.x,h.y,h.z,h.p,h.q,h.spot⟩
def Ms.u_hl (s:Ms)(v:Int):Ms:={ s with r:={ s.r with hl:=v } }
theorem QNi (s:Ms)(v:Int)(A:Option Addr)(n cap:Nat):(mC s A n cap).setIfInBounds 3 (.int .u16 v)=mC (s.u_hl v) A n cap:=rfl
theorem MsB.u_hl {s:Ms}(h:MsB s){v:Int}(hv:Wd16 v):MsB (s.u_hl v):=⟨⟨h.r.af,h.r.bc,h.r.de,hv,h.r.af2,h.r.bc2,h.r.de2,h.r.hl2,h.r.ix,h.r.iy,h.r.sp,h.r.pc,h.r.wz,h.r.i,h.r.r,h.r.mode⟩,h.plane,h.x,h.y,h.z,h.p,h.q,h.spot⟩
def Ms.u_sp (s:Ms)(v:Int):Ms:={ s with r:={ s.r with sp:=v } }
theorem MsB.u_sp {s:Ms}(h:MsB s){v:Int}(hv:Wd16 v):MsB (s.u_sp v):=⟨⟨h.r.af,h.r.bc,h.r.de,h.r.hl,h.r.af2,h.r.bc2,h.r.de2,h.r.hl2,h.r.ix,h.r.iy,hv,h.r.pc,h.r.wz,h.r.i,h.r.r,h.r.mode⟩,h.plane,h.x,h.y,h.z,h.p,h.q,h.spot⟩
def Ms.u_pc (s:Ms)(v:Int):Ms:={ s with r:={ s.r with pc:=v } }
theorem MsB.u_pc {s:Ms}(h:MsB s){v:Int}(hv:Wd16 v):MsB (s.u_pc v):=⟨⟨h.r.af,h.r.bc,h.r.de,h.r.hl,h.r.af2,h.r.bc2,h.r.de2,h.r.hl2,h.r.ix,h.r.iy,h.r.sp,hv,h.r.wz,h.r.i,h.r.r,h.r.mode⟩,h.plane,h.x,h.y,h.z,h.p,h.q,h.spot⟩
def Ms.u_wz (s:Ms)(v:Int):Ms:={ s with r:={ s.r with wz:=v } }
theorem QTg (s:Ms)(v:Int)(A:Option Addr)(n cap:Nat):(mC s A n cap).setIfInBounds 12 (.int .u16 v)=mC (s.u_wz v) A n cap:=rfl
theorem MsB.u_wz {s:Ms}(h:MsB s){v:Int}(hv:Wd16 v):MsB (s.u_wz v):=⟨⟨h.r.af,h.r.bc,h.r.de,h.r.hl,h.r.af2,h.r.bc2,h.r.de2,h.r.hl2,h.r.ix,h.r.iy,h.r.sp,h.r.pc,hv,h.r.i,h.r.r,h.r.mode⟩,h.plane,h.x,h.y,h.z,h.p,h.q,h.spot⟩
def Ms.u_i (s:Ms)(v:Int):Ms:={ s with r:={ s.r with i:=v } }
theorem MsB.u_i {s:Ms}(h:MsB s){v:Int}(hv:B8 v):MsB (s.u_i v):=⟨⟨h.r.af,h.r.bc,h.r.de,h.r.hl,h.r.af2,h.r.bc2,h.r.de2,h.r.hl2,h.r.ix,h.r.iy,h.r.sp,h.r.pc,h.r.wz,hv,h.r.r,h.r.mode⟩,h.plane,h.x,h.y,h.z,h.p,h.q,h.spot⟩
def Ms.u_r (s:Ms)(v:Int):Ms:={ s with r:={ s.r with r:=v } }
theorem MsB.u_r {s:Ms}(h:MsB s){v:Int}(hv:B8 v):MsB (s.u_r v):=⟨⟨h.r.af,h.r.bc,h.r.de,h.r.hl,h.r.af2,h.r.bc2,h.r.de2,h.r.hl2,h.r.ix,h.r.iy,h.r.sp,h.r.pc,h.r.wz,h.r.i,hv,h.r.mode⟩,h.plane,h.x,h.y,h.z,h.p,h.q,h.spot⟩
def Ms.u_iff1 (s:Ms)(v:Bool):Ms:={ s with r:={ s.r with iff1:=v } }
theorem MsB.u_iff1 {s:Ms}(h:MsB s){v:Bool}:MsB (s.u_iff1 v):=⟨⟨h.r.af,h.r.bc,h.r.de,h.r.hl,h.r.af2,h.r.bc2,h.r.de2,h.r.hl2,h.r.ix,h.r.iy,h.r.sp,h.r.pc,h.r.wz,h.r.i,h.r.r,h.r.mode⟩,h.plane,h.x,h.y,h.z,h.p,h.q,h.spot⟩
def Ms.u_iff2 (s:Ms)(v:Bool):Ms:={ s with r:={ s.r with iff2:=v } }
theorem MsB.u_iff2 {s:Ms}(h:MsB s){v:Bool}:MsB (s.u_iff2 v):=⟨⟨h.r.af,h.r.bc,h.r.de,h.r.hl,h.r.af2,h.r.bc2,h.r.de2,h.r.hl2,h.r.ix,h.r.iy,h.r.sp,h.r.pc,h.r.wz,h.r.i,h.r.r,h.r.mode⟩,h.plane,h.x,h.y,h.z,h.p,h.q,h.spot⟩
def Ms.u_halted (s:Ms)(v:Bool):Ms:={ s with r:={ s.r with halted:=v } }
theorem MsB.u_halted {s:Ms}(h:MsB s){v:Bool}:MsB (s.u_halted v):=⟨⟨h.r.af,h.r.bc,h.r.de,h.r.hl,h.r.af2,h.r.bc2,h.r.de2,h.r.hl2,h.r.ix,h.r.iy,h.r.sp,h.r.pc,h.r.wz,h.r.i,h.r.r,h.r.mode⟩,h.plane,h.x,h.y,h.z,h.p,h.q,h.spot⟩
def Ms.u_late (s:Ms)(v:Bool):Ms:={ s with r:={ s.r with late:=v } }
theorem QQA (s:Ms)(v:Bool)(A:Option Addr)(n cap:Nat):(mC s A n cap).setIfInBounds 18 (.bool v)=mC (s.u_late v) A n cap:=rfl
theorem MsB.u_late {s:Ms}(h:MsB s){v:Bool}:MsB (s.u_late v):=⟨⟨h.r.af,h.r.bc,h.r.de,h.r.hl,h.r.af2,h.r.bc2,h.r.de2,h.r.hl2,h.r.ix,h.r.iy,h.r.sp,h.r.pc,h.r.wz,h.r.i,h.r.r,h.r.mode⟩,h.plane,h.x,h.y,h.z,h.p,h.q,h.spot⟩
def Ms.u_mode (s:Ms)(v:Int):Ms:={ s with r:={ s.r with mode:=v } }
theorem QDu (s:Ms)(v:Int)(A:Option Addr)(n cap:Nat):(mC s A n cap).setIfInBounds 19 (.int .i64 v)=mC (s.u_mode v) A n cap:=rfl
theorem MsB.u_mode {s:Ms}(h:MsB s){v:Int}(hv:-9223372036854775808≤v∧v≤9223372036854775807):MsB (s.u_mode v):=⟨⟨h.r.af,h.r.bc,h.r.de,h.r.hl,h.r.af2,h.r.bc2,h.r.de2,h.r.hl2,h.r.ix,h.r.iy,h.r.sp,h.r.pc,h.r.wz,h.r.i,h.r.r,hv⟩,h.plane,h.x,h.y,h.z,h.p,h.q,h.spot⟩
def Ms.u_rg (s:Ms)(g:Rg):Ms:={ s with r:=g }
theorem MsB.u_rg {s:Ms}(h:MsB s){g:Rg}(hg:RgB g):MsB (s.u_rg g):=⟨hg,h.plane,h.x,h.y,h.z,h.p,h.q,h.spot⟩
def Ms.u_plane (s:Ms)(v:Int):Ms:={ s with plane:=v }
theorem QAb (s:Ms)(v:Int)(A:Option Addr)(n cap:Nat):(mC s A n cap).setIfInBounds 21 (.int .i64 v)=mC (s.u_plane v) A n cap:=rfl
theorem MsB.u_plane {s:Ms}(h:MsB s){v:Int}(hv:v=0∨v=3∨v=4):MsB (s.u_plane v):=⟨h.r,hv,h.x,h.y,h.z,h.p,h.q,h.spot⟩
def Ms.u_x (s:Ms)(v:Int):Ms:={ s with x:=v }
theorem MsB.u_x {s:Ms}(h:MsB s){v:Int}(hv:0≤v∧v≤3):MsB (s.u_x v):=⟨h.r,h.plane,hv,h.y,h.z,h.p,h.q,h.spot⟩
def Ms.u_y (s:Ms)(v:Int):Ms:={ s with y:=v }
theorem MsB.u_y {s:Ms}(h:MsB s){v:Int}(hv:0≤v∧v≤7):MsB (s.u_y v):=⟨h.r,h.plane,h.x,hv,h.z,h.p,h.q,h.spot⟩
def Ms.u_z (s:Ms)(v:Int):Ms:={ s with z:=v }
theorem MsB.u_z {s:Ms}(h:MsB s){v:Int}(hv:0≤v∧v≤7):MsB (s.u_z v):=⟨h.r,h.plane,h.x,h.y,hv,h.p,h.q,h.spot⟩
def Ms.u_p (s:Ms)(v:Int):Ms:={ s with p:=v }
theorem MsB.u_p {s:Ms}(h:MsB s){v:Int}(hv:0≤v∧v≤3):MsB (s.u_p v):=⟨h.r,h.plane,h.x,h.y,h.z,hv,h.q,h.spot⟩
def Ms.u_q (s:Ms)(v:Int):Ms:={ s with q:=v }
theorem MsB.u_q {s:Ms}(h:MsB s){v:Int}(hv:0≤v∧v≤1):MsB (s.u_q v):=⟨h.r,h.plane,h.x,h.y,h.z,h.p,hv,h.spot⟩
def Ms.u_spot (s:Ms)(v:Int):Ms:={ s with spot:=v }
theorem QQg (s:Ms)(v:Int)(A:Option Addr)(n cap:Nat):(mC s A n cap).setIfInBounds 27 (.int .u16 v)=mC (s.u_spot v) A n cap:=rfl
theorem MsB.u_spot {s:Ms}(h:MsB s){v:Int}(hv:Wd16 v):MsB (s.u_spot v):=⟨h.r,h.plane,h.x,h.y,h.z,h.p,h.q,hv⟩
def Ms.u_near (s:Ms)(v:Bool):Ms:={ s with near:=v }
theorem MsB.u_near {s:Ms}(h:MsB s){v:Bool}:MsB (s.u_near v):=⟨h.r,h.plane,h.x,h.y,h.z,h.p,h.q,h.spot⟩
theorem fR3 (b:Nat)(w:World):(Instr.fieldAt 24 (.pointer (some ⟨b,0,none⟩)) 3).run Tryz.prog w=.ok (.pointer (some ⟨b,3,none⟩)) w:=by simp[go_sem]
theorem fR11 (b:Nat)(w:World):(Instr.fieldAt 24 (.pointer (some ⟨b,0,none⟩)) 11).run Tryz.prog w=.ok (.pointer (some ⟨b,11,none⟩)) w:=by simp[go_sem]
theorem fR12 (b:Nat)(w:World):(Instr.fieldAt 24 (.pointer (some ⟨b,0,none⟩)) 12).run Tryz.prog w=.ok (.pointer (some ⟨b,12,none⟩)) w:=by simp[go_sem]
theorem fR13 (b:Nat)(w:World):(Instr.fieldAt 24 (.pointer (some ⟨b,0,none⟩)) 13).run Tryz.prog w=.ok (.pointer (some ⟨b,13,none⟩)) w:=by simp[go_sem]
theorem fR14 (b:Nat)(w:World):(Instr.fieldAt 24 (.pointer (some ⟨b,0,none⟩)) 14).run Tryz.prog w=.ok (.pointer (some ⟨b,14,none⟩)) w:=by simp[go_sem]
theorem fR16 (b:Nat)(w:World):(Instr.fieldAt 24 (.pointer (some ⟨b,0,none⟩)) 16).run Tryz.prog w=.ok (.pointer (some ⟨b,16,none⟩)) w:=by simp[go_sem]
theorem fR17 (b:Nat)(w:World):(Instr.fieldAt 24 (.pointer (some ⟨b,0,none⟩)) 17).run Tryz.prog w=.ok (.pointer (some ⟨b,17,none⟩)) w:=by simp[go_sem]
theorem QSw (b:Nat)(w:World):(Instr.fieldAt 24 (.pointer (some ⟨b,0,none⟩)) 18).run Tryz.prog w=.ok (.pointer (some ⟨b,18,none⟩)) w:=by simp[go_sem]
theorem QHw (b:Nat)(w:World):(Instr.fieldAt 24 (.pointer (some ⟨b,0,none⟩)) 19).run Tryz.prog w=.ok (.pointer (some ⟨b,19,none⟩)) w:=by simp[go_sem]
theorem fM0 (b:Nat)(w:World):(Instr.fieldAt 118 (.pointer (some ⟨b,0,none⟩)) 0).run Tryz.prog w=.ok (.pointer (some ⟨b,0,none⟩)) w:=by simp[go_sem]
theorem fM1 (b:Nat)(w:World):(Instr.fieldAt 118 (.pointer (some ⟨b,0,none⟩)) 1).run Tryz.prog w=.ok (.pointer (some ⟨b,20,none⟩)) w:=by simp[go_sem]
theorem fM2 (b:Nat)(w:World):(Instr.fieldAt 118 (.pointer (some ⟨b,0,none⟩)) 2).run Tryz.prog w=.ok (.pointer (some ⟨b,21,none⟩)) w:=by simp[go_sem]
theorem fM3 (b:Nat)(w:World):(Instr.fieldAt 118 (.pointer (some ⟨b,0,none⟩)) 3).run Tryz.prog w=.ok (.pointer (some ⟨b,22,none⟩)) w:=by simp[go_sem]
theorem fM4 (b:Nat)(w:World):(Instr.fieldAt 118 (.pointer (some ⟨b,0,none⟩)) 4).run Tryz.prog w=.ok (.pointer (some ⟨b,23,none⟩)) w:=by simp[go_sem]
theorem fM5 (b:Nat)(w:World):(Instr.fieldAt 118 (.pointer (some ⟨b,0,none⟩)) 5).run Tryz.prog w=.ok (.pointer (some ⟨b,24,none⟩)) w:=by simp[go_sem]
theorem fM7 (b:Nat)(w:World):(Instr.fieldAt 118 (.pointer (some ⟨b,0,none⟩)) 7).run Tryz.prog w=.ok (.pointer (some ⟨b,26,none⟩)) w:=by simp[go_sem]
theorem fM8 (b:Nat)(w:World):(Instr.fieldAt 118 (.pointer (some ⟨b,0,none⟩)) 8).run Tryz.prog w=.ok (.pointer (some ⟨b,27,none⟩)) w:=by simp[go_sem]
end Go.Proofs.YtkenebbjodcbcaaGreatDoor
