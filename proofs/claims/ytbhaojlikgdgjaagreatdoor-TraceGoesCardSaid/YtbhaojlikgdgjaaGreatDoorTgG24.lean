/- Contracts and facts that the claim's proof wants (several texts in one). -/
import Derived.Test.YtbhaojlikgdgjaaGreatDoorTgG23
namespace Go.Proofs.YtbhaojlikgdgjaaGreatDoor
open Go.RowKit
set_option linter.unusedVariables false
set_option linter.unusedSimpArgs false
set_option maxRecDepth 20000
set_option maxHeartbeats 20000000
section
theorem QN9 (W:World)(b:Nat)(hb:b=W.heap.size) :
 (Instr.mapUpdate 147 (.map (some b)) (.int .i64 0) (.agg #[.int .i64 0,.int .i64 0,.int .i64 1,.int .i64 1,.int .i64 1,.int .i64 1,.int .i64 1,.int .i64 1])).run Tryz.prog (W.alloc (.map #[] 0))=.ok () (W.alloc (.map #[⟨.int .i64 0,.agg #[.int .i64 0,.int .i64 0,.int .i64 1,.int .i64 1,.int .i64 1,.int .i64 1,.int .i64 1,.int .i64 1],0⟩] 1)) :=
 JJ W _ _ _ Tryz.underlying147 Tryz.underlying3 _ _ _ _ b hb rfl
theorem QM7 (W:World)(b:Nat)(hb:b=W.heap.size) :
 (Instr.mapUpdate 147 (.map (some b)) (.int .i64 1) (.agg #[.int .i64 2,.int .i64 0,.int .i64 2,.int .i64 0,.int .i64 2,.int .i64 0,.int .i64 2,.int .i64 0])).run Tryz.prog (W.alloc (.map #[⟨.int .i64 0,.agg #[.int .i64 0,.int .i64 0,.int .i64 1,.int .i64 1,.int .i64 1,.int .i64 1,.int .i64 1,.int .i64 1],0⟩] 1))=.ok () (W.alloc (.map #[⟨.int .i64 0,.agg #[.int .i64 0,.int .i64 0,.int .i64 1,.int .i64 1,.int .i64 1,.int .i64 1,.int .i64 1,.int .i64 1],0⟩,⟨.int .i64 1,.agg #[.int .i64 2,.int .i64 0,.int .i64 2,.int .i64 0,.int .i64 2,.int .i64 0,.int .i64 2,.int .i64 0],1⟩] 2)) :=
 JJ W _ _ _ Tryz.underlying147 Tryz.underlying3 _ _ _ _ b hb rfl
theorem QNH (W:World)(b:Nat)(hb:b=W.heap.size) :
 (Instr.mapUpdate 147 (.map (some b)) (.int .i64 2) (.agg #[.int .i64 0,.int .i64 0,.int .i64 0,.int .i64 0,.int .i64 2,.int .i64 2,.int .i64 2,.int .i64 2])).run Tryz.prog (W.alloc (.map #[⟨.int .i64 0,.agg #[.int .i64 0,.int .i64 0,.int .i64 1,.int .i64 1,.int .i64 1,.int .i64 1,.int .i64 1,.int .i64 1],0⟩,⟨.int .i64 1,.agg #[.int .i64 2,.int .i64 0,.int .i64 2,.int .i64 0,.int .i64 2,.int .i64 0,.int .i64 2,.int .i64 0],1⟩] 2))=.ok () (W.alloc (.map #[⟨.int .i64 0,.agg #[.int .i64 0,.int .i64 0,.int .i64 1,.int .i64 1,.int .i64 1,.int .i64 1,.int .i64 1,.int .i64 1],0⟩,⟨.int .i64 1,.agg #[.int .i64 2,.int .i64 0,.int .i64 2,.int .i64 0,.int .i64 2,.int .i64 0,.int .i64 2,.int .i64 0],1⟩,⟨.int .i64 2,.agg #[.int .i64 0,.int .i64 0,.int .i64 0,.int .i64 0,.int .i64 2,.int .i64 2,.int .i64 2,.int .i64 2],2⟩] 3)) :=
 JJ W _ _ _ Tryz.underlying147 Tryz.underlying3 _ _ _ _ b hb rfl
theorem QNx (W:World)(b:Nat)(hb:b=W.heap.size) :
 (Instr.mapUpdate 147 (.map (some b)) (.int .i64 6) (.agg #[.int .i64 1,.int .i64 1,.int .i64 1,.int .i64 1,.int .i64 1,.int .i64 1,.int .i64 1,.int .i64 1])).run Tryz.prog (W.alloc (.map #[⟨.int .i64 0,.agg #[.int .i64 0,.int .i64 0,.int .i64 1,.int .i64 1,.int .i64 1,.int .i64 1,.int .i64 1,.int .i64 1],0⟩,⟨.int .i64 1,.agg #[.int .i64 2,.int .i64 0,.int .i64 2,.int .i64 0,.int .i64 2,.int .i64 0,.int .i64 2,.int .i64 0],1⟩,⟨.int .i64 2,.agg #[.int .i64 0,.int .i64 0,.int .i64 0,.int .i64 0,.int .i64 2,.int .i64 2,.int .i64 2,.int .i64 2],2⟩] 3))=.ok () (W.alloc (.map #[⟨.int .i64 0,.agg #[.int .i64 0,.int .i64 0,.int .i64 1,.int .i64 1,.int .i64 1,.int .i64 1,.int .i64 1,.int .i64 1],0⟩,⟨.int .i64 1,.agg #[.int .i64 2,.int .i64 0,.int .i64 2,.int .i64 0,.int .i64 2,.int .i64 0,.int .i64 2,.int .i64 0],1⟩,⟨.int .i64 2,.agg #[.int .i64 0,.int .i64 0,.int .i64 0,.int .i64 0,.int .i64 2,.int .i64 2,.int .i64 2,.int .i64 2],2⟩,⟨.int .i64 6,.agg #[.int .i64 1,.int .i64 1,.int .i64 1,.int .i64 1,.int .i64 1,.int .i64 1,.int .i64 1,.int .i64 1],3⟩] 4)) :=
 JJ W _ _ _ Tryz.underlying147 Tryz.underlying3 _ _ _ _ b hb rfl
theorem QO9 (W:World)(b:Nat)(hb:b=W.heap.size) :
 (Instr.mapUpdate 147 (.map (some b)) (.int .i64 2) (.agg #[.int .i64 2,.int .i64 2,.int .i64 2,.int .i64 2,.int .i64 2,.int .i64 2,.int .i64 2,.int .i64 2])).run Tryz.prog (W.alloc (.map #[] 0))=.ok () (W.alloc (.map #[⟨.int .i64 2,.agg #[.int .i64 2,.int .i64 2,.int .i64 2,.int .i64 2,.int .i64 2,.int .i64 2,.int .i64 2,.int .i64 2],0⟩] 1)) :=
 JJ W _ _ _ Tryz.underlying147 Tryz.underlying3 _ _ _ _ b hb rfl
theorem QO6 (W:World)(b:Nat)(hb:b=W.heap.size) :
 (Instr.mapUpdate 147 (.map (some b)) (.int .i64 3) (.agg #[.int .i64 2,.int .i64 0,.int .i64 1,.int .i64 1,.int .i64 0,.int .i64 0,.int .i64 0,.int .i64 0])).run Tryz.prog (W.alloc (.map #[⟨.int .i64 2,.agg #[.int .i64 2,.int .i64 2,.int .i64 2,.int .i64 2,.int .i64 2,.int .i64 2,.int .i64 2,.int .i64 2],0⟩] 1))=.ok () (W.alloc (.map #[⟨.int .i64 2,.agg #[.int .i64 2,.int .i64 2,.int .i64 2,.int .i64 2,.int .i64 2,.int .i64 2,.int .i64 2,.int .i64 2],0⟩,⟨.int .i64 3,.agg #[.int .i64 2,.int .i64 0,.int .i64 1,.int .i64 1,.int .i64 0,.int .i64 0,.int .i64 0,.int .i64 0],1⟩] 2)) :=
 JJ W _ _ _ Tryz.underlying147 Tryz.underlying3 _ _ _ _ b hb rfl
theorem QN6 (W:World)(b:Nat)(hb:b=W.heap.size) :
 (Instr.mapUpdate 147 (.map (some b)) (.int .i64 4) (.agg #[.int .i64 2,.int .i64 2,.int .i64 2,.int .i64 2,.int .i64 2,.int .i64 2,.int .i64 2,.int .i64 2])).run Tryz.prog (W.alloc (.map #[⟨.int .i64 2,.agg #[.int .i64 2,.int .i64 2,.int .i64 2,.int .i64 2,.int .i64 2,.int .i64 2,.int .i64 2,.int .i64 2],0⟩,⟨.int .i64 3,.agg #[.int .i64 2,.int .i64 0,.int .i64 1,.int .i64 1,.int .i64 0,.int .i64 0,.int .i64 0,.int .i64 0],1⟩] 2))=.ok () (W.alloc (.map #[⟨.int .i64 2,.agg #[.int .i64 2,.int .i64 2,.int .i64 2,.int .i64 2,.int .i64 2,.int .i64 2,.int .i64 2,.int .i64 2],0⟩,⟨.int .i64 3,.agg #[.int .i64 2,.int .i64 0,.int .i64 1,.int .i64 1,.int .i64 0,.int .i64 0,.int .i64 0,.int .i64 0],1⟩,⟨.int .i64 4,.agg #[.int .i64 2,.int .i64 2,.int .i64 2,.int .i64 2,.int .i64 2,.int .i64 2,.int .i64 2,.int .i64 2],2⟩] 3)) :=
 JJ W _ _ _ Tryz.underlying147 Tryz.underlying3 _ _ _ _ b hb rfl
theorem QPk (W:World)(b:Nat)(hb:b=W.heap.size) :
 (Instr.mapUpdate 147 (.map (some b)) (.int .i64 5) (.agg #[.int .i64 0,.int .i64 2,.int .i64 0,.int .i64 0,.int .i64 0,.int .i64 0,.int .i64 0,.int .i64 0])).run Tryz.prog (W.alloc (.map #[⟨.int .i64 2,.agg #[.int .i64 2,.int .i64 2,.int .i64 2,.int .i64 2,.int .i64 2,.int .i64 2,.int .i64 2,.int .i64 2],0⟩,⟨.int .i64 3,.agg #[.int .i64 2,.int .i64 0,.int .i64 1,.int .i64 1,.int .i64 0,.int .i64 0,.int .i64 0,.int .i64 0],1⟩,⟨.int .i64 4,.agg #[.int .i64 2,.int .i64 2,.int .i64 2,.int .i64 2,.int .i64 2,.int .i64 2,.int .i64 2,.int .i64 2],2⟩] 3))=.ok () (W.alloc (.map #[⟨.int .i64 2,.agg #[.int .i64 2,.int .i64 2,.int .i64 2,.int .i64 2,.int .i64 2,.int .i64 2,.int .i64 2,.int .i64 2],0⟩,⟨.int .i64 3,.agg #[.int .i64 2,.int .i64 0,.int .i64 1,.int .i64 1,.int .i64 0,.int .i64 0,.int .i64 0,.int .i64 0],1⟩,⟨.int .i64 4,.agg #[.int .i64 2,.int .i64 2,.int .i64 2,.int .i64 2,.int .i64 2,.int .i64 2,.int .i64 2,.int .i64 2],2⟩,⟨.int .i64 5,.agg #[.int .i64 0,.int .i64 2,.int .i64 0,.int .i64 0,.int .i64 0,.int .i64 0,.int .i64 0,.int .i64 0],3⟩] 4)) :=
 JJ W _ _ _ Tryz.underlying147 Tryz.underlying3 _ _ _ _ b hb rfl
theorem QNI (W:World)(b:Nat)(hb:b=W.heap.size) :
 (Instr.mapUpdate 147 (.map (some b)) (.int .i64 6) (.agg #[.int .i64 1,.int .i64 1,.int .i64 1,.int .i64 1,.int .i64 1,.int .i64 1,.int .i64 1,.int .i64 1])).run Tryz.prog (W.alloc (.map #[⟨.int .i64 2,.agg #[.int .i64 2,.int .i64 2,.int .i64 2,.int .i64 2,.int .i64 2,.int .i64 2,.int .i64 2,.int .i64 2],0⟩,⟨.int .i64 3,.agg #[.int .i64 2,.int .i64 0,.int .i64 1,.int .i64 1,.int .i64 0,.int .i64 0,.int .i64 0,.int .i64 0],1⟩,⟨.int .i64 4,.agg #[.int .i64 2,.int .i64 2,.int .i64 2,.int .i64 2,.int .i64 2,.int .i64 2,.int .i64 2,.int .i64 2],2⟩,⟨.int .i64 5,.agg #[.int .i64 0,.int .i64 2,.int .i64 0,.int .i64 0,.int .i64 0,.int .i64 0,.int .i64 0,.int .i64 0],3⟩] 4))=.ok () (W.alloc (.map #[⟨.int .i64 2,.agg #[.int .i64 2,.int .i64 2,.int .i64 2,.int .i64 2,.int .i64 2,.int .i64 2,.int .i64 2,.int .i64 2],0⟩,⟨.int .i64 3,.agg #[.int .i64 2,.int .i64 0,.int .i64 1,.int .i64 1,.int .i64 0,.int .i64 0,.int .i64 0,.int .i64 0],1⟩,⟨.int .i64 4,.agg #[.int .i64 2,.int .i64 2,.int .i64 2,.int .i64 2,.int .i64 2,.int .i64 2,.int .i64 2,.int .i64 2],2⟩,⟨.int .i64 5,.agg #[.int .i64 0,.int .i64 2,.int .i64 0,.int .i64 0,.int .i64 0,.int .i64 0,.int .i64 0,.int .i64 0],3⟩,⟨.int .i64 6,.agg #[.int .i64 1,.int .i64 1,.int .i64 1,.int .i64 1,.int .i64 1,.int .i64 1,.int .i64 1,.int .i64 1],4⟩] 5)) :=
 JJ W _ _ _ Tryz.underlying147 Tryz.underlying3 _ _ _ _ b hb rfl
theorem QPA (W:World)(b:Nat)(hb:b=W.heap.size) :
 (Instr.mapUpdate 147 (.map (some b)) (.int .i64 3) (.agg #[.int .i64 2,.int .i64 2,.int .i64 2,.int .i64 2,.int .i64 2,.int .i64 2,.int .i64 2,.int .i64 2])).run Tryz.prog (W.alloc (.map #[] 0))=.ok () (W.alloc (.map #[⟨.int .i64 3,.agg #[.int .i64 2,.int .i64 2,.int .i64 2,.int .i64 2,.int .i64 2,.int .i64 2,.int .i64 2,.int .i64 2],0⟩] 1)) :=
 JJ W _ _ _ Tryz.underlying147 Tryz.underlying3 _ _ _ _ b hb rfl
attribute [local go_sem] QN9 QM7 QNH QNx QO9 QO6 QN6 QPk QNI QPA
def QT6 (Z:Int):List Int:=if Z=0 then [0,0,1,1,1,1,1,1] else if Z=1 then [2,0,2,0,2,0,2,0] else if Z=2 then [0,0,0,0,2,2,2,2] else if Z=6 then [1,1,1,1,1,1,1,1] else [0,0,0,0,0,0,0,0]
def QTn (Z:Int):List Int:=if Z=2 then [2,2,2,2,2,2,2,2] else if Z=3 then [2,0,1,1,0,0,0,0] else if Z=4 then [2,2,2,2,2,2,2,2] else if Z=5 then [0,2,0,0,0,0,0,0] else if Z=6 then [1,1,1,1,1,1,1,1] else [0,0,0,0,0,0,0,0]
def QTj (Z:Int):List Int:=if Z=3 then [2,2,2,2,2,2,2,2] else [0,0,0,0,0,0,0,0]
def QCo (p X Z:Int):List Int:=if p=0∧X=0 then QT6 Z else if p=0∧X=3 then QTn Z else if p=2∧X=1 then QTj Z else [0,0,0,0,0,0,0,0]
def QLe (l:List Int):Value:=.agg (l.map (fun n=>(.int .i64 n:Value))).toArray
def Looks (w:World)(m:Value)(p X:Int):Prop:=∀ Z:Int,0≤Z→Z≤7→(Instr.lookup 147 m (.int .i64 Z) false).run Tryz.prog w=.ok (QLe (QCo p X Z)) w
theorem QT7 {w:World} {M:Nat}(h:w.heap[M]? = some (.map #[⟨.int .i64 0,.agg #[.int .i64 0,.int .i64 0,.int .i64 1,.int .i64 1,.int .i64 1,.int .i64 1,.int .i64 1,.int .i64 1],0⟩,⟨.int .i64 1,.agg #[.int .i64 2,.int .i64 0,.int .i64 2,.int .i64 0,.int .i64 2,.int .i64 0,.int .i64 2,.int .i64 0],1⟩,⟨.int .i64 2,.agg #[.int .i64 0,.int .i64 0,.int .i64 0,.int .i64 0,.int .i64 2,.int .i64 2,.int .i64 2,.int .i64 2],2⟩,⟨.int .i64 6,.agg #[.int .i64 1,.int .i64 1,.int .i64 1,.int .i64 1,.int .i64 1,.int .i64 1,.int .i64 1,.int .i64 1],3⟩] 4))(Z:Int)(h0:0≤Z)(h1:Z≤7):(Instr.lookup 147 (.map (some M)) (.int .i64 Z) false).run Tryz.prog w=.ok (QLe (QT6 Z)) w:=by
 obtain rfl|rfl|rfl|rfl|rfl|rfl|rfl|rfl:Z=0∨Z=1∨Z=2∨Z=3∨Z=4∨Z=5∨Z=6∨Z=7:=by omega
 · exact XE Tryz.underlying147 Tryz.underlying3 h rfl
 · exact XE Tryz.underlying147 Tryz.underlying3 h rfl
 · exact XE Tryz.underlying147 Tryz.underlying3 h rfl
 · exact Jn Tryz.underlying147 Tryz.underlying3 h rfl (by kernel_rfl)
 · exact Jn Tryz.underlying147 Tryz.underlying3 h rfl (by kernel_rfl)
 · exact Jn Tryz.underlying147 Tryz.underlying3 h rfl (by kernel_rfl)
 · exact XE Tryz.underlying147 Tryz.underlying3 h rfl
 · exact Jn Tryz.underlying147 Tryz.underlying3 h rfl (by kernel_rfl)
theorem QTH {w:World} {M:Nat}(h:w.heap[M]? = some (.map #[⟨.int .i64 2,.agg #[.int .i64 2,.int .i64 2,.int .i64 2,.int .i64 2,.int .i64 2,.int .i64 2,.int .i64 2,.int .i64 2],0⟩,⟨.int .i64 3,.agg #[.int .i64 2,.int .i64 0,.int .i64 1,.int .i64 1,.int .i64 0,.int .i64 0,.int .i64 0,.int .i64 0],1⟩,⟨.int .i64 4,.agg #[.int .i64 2,.int .i64 2,.int .i64 2,.int .i64 2,.int .i64 2,.int .i64 2,.int .i64 2,.int .i64 2],2⟩,⟨.int .i64 5,.agg #[.int .i64 0,.int .i64 2,.int .i64 0,.int .i64 0,.int .i64 0,.int .i64 0,.int .i64 0,.int .i64 0],3⟩,⟨.int .i64 6,.agg #[.int .i64 1,.int .i64 1,.int .i64 1,.int .i64 1,.int .i64 1,.int .i64 1,.int .i64 1,.int .i64 1],4⟩] 5))(Z:Int)(h0:0≤Z)(h1:Z≤7):(Instr.lookup 147 (.map (some M)) (.int .i64 Z) false).run Tryz.prog w=.ok (QLe (QTn Z)) w:=by
 obtain rfl|rfl|rfl|rfl|rfl|rfl|rfl|rfl:Z=0∨Z=1∨Z=2∨Z=3∨Z=4∨Z=5∨Z=6∨Z=7:=by omega
 · exact Jn Tryz.underlying147 Tryz.underlying3 h rfl (by kernel_rfl)
 · exact Jn Tryz.underlying147 Tryz.underlying3 h rfl (by kernel_rfl)
 · exact XE Tryz.underlying147 Tryz.underlying3 h rfl
 · exact XE Tryz.underlying147 Tryz.underlying3 h rfl
 · exact XE Tryz.underlying147 Tryz.underlying3 h rfl
 · exact XE Tryz.underlying147 Tryz.underlying3 h rfl
 · exact XE Tryz.underlying147 Tryz.underlying3 h rfl
 · exact Jn Tryz.underlying147 Tryz.underlying3 h rfl (by kernel_rfl)
theorem QS6 {w:World} {M:Nat}(h:w.heap[M]? = some (.map #[⟨.int .i64 3,.agg #[.int .i64 2,.int .i64 2,.int .i64 2,.int .i64 2,.int .i64 2,.int .i64 2,.int .i64 2,.int .i64 2],0⟩] 1))(Z:Int)(h0:0≤Z)(h1:Z≤7):(Instr.lookup 147 (.map (some M)) (.int .i64 Z) false).run Tryz.prog w=.ok (QLe (QTj Z)) w:=by
 obtain rfl|rfl|rfl|rfl|rfl|rfl|rfl|rfl:Z=0∨Z=1∨Z=2∨Z=3∨Z=4∨Z=5∨Z=6∨Z=7:=by omega
 · exact Jn Tryz.underlying147 Tryz.underlying3 h rfl (by kernel_rfl)
 · exact Jn Tryz.underlying147 Tryz.underlying3 h rfl (by kernel_rfl)
 · exact Jn Tryz.underlying147 Tryz.underlying3 h rfl (by kernel_rfl)
 · exact XE Tryz.underlying147 Tryz.underlying3 h rfl
 · exact Jn Tryz.underlying147 Tryz.underlying3 h rfl (by kernel_rfl)
 · exact Jn Tryz.underlying147 Tryz.underlying3 h rfl (by kernel_rfl)
 · exact Jn Tryz.underlying147 Tryz.underlying3 h rfl (by kernel_rfl)
 · exact Jn Tryz.underlying147 Tryz.underlying3 h rfl (by kernel_rfl)
theorem QNp {w:World}(Z:Int):(Instr.lookup 147 (.map none) (.int .i64 Z) false).run Tryz.prog w=.ok (QLe [0,0,0,0,0,0,0,0]) w :=
 QEO Tryz.underlying147 Tryz.underlying3 (by kernel_rfl)
theorem QDh (w:World)(o:Obj):(w.alloc o).heap[w.heap.size]? = some o:=by
 show (w.heap.push _)[w.heap.size]? = _
 simp
theorem QRn (w:World) :
 Calls Tryz.prog 93 #[.int .i64 0,.int .i64 0] w fun e w'=>∃ m,e=.returned m∧Looks w' m 0 0∧Below w.heap.size w w':=by
 have hmm:=@run_makeMap Tryz.prog
 go_enter Tryz.func93,Tryz.ntmps93
 go_wp2
 go_ret
 exact⟨_,rfl,fun Z h0 h1=>QT7 (QDh _ _) Z h0 h1,(by repeat (first|exact Below.refl _ _|assumption|refine JF ?_ (by assumption)|refine Below.drew ?_|refine Below.alloc ?_ (by first|(simp;done)|(simp;omega)|omega) _|refine Below.setCell ?_ (by first|(simp;done)|(simp;omega)|omega) _))⟩
theorem QRq (w:World) :
 Calls Tryz.prog 93 #[.int .i64 0,.int .i64 3] w fun e w'=>∃ m,e=.returned m∧Looks w' m 0 3∧Below w.heap.size w w':=by
 have hmm:=@run_makeMap Tryz.prog
 go_enter Tryz.func93,Tryz.ntmps93
 go_wp2
 go_ret
 exact⟨_,rfl,fun Z h0 h1=>QTH (QDh _ _) Z h0 h1,(by repeat (first|exact Below.refl _ _|assumption|refine JF ?_ (by assumption)|refine Below.drew ?_|refine Below.alloc ?_ (by first|(simp;done)|(simp;omega)|omega) _|refine Below.setCell ?_ (by first|(simp;done)|(simp;omega)|omega) _))⟩
theorem QQs (w:World) :
 Calls Tryz.prog 93 #[.int .i64 2,.int .i64 1] w fun e w'=>∃ m,e=.returned m∧Looks w' m 2 1∧Below w.heap.size w w':=by
 have hmm:=@run_makeMap Tryz.prog
 go_enter Tryz.func93,Tryz.ntmps93
 go_wp2
 go_ret
 exact⟨_,rfl,fun Z h0 h1=>QS6 (QDh _ _) Z h0 h1,(by repeat (first|exact Below.refl _ _|assumption|refine JF ?_ (by assumption)|refine Below.drew ?_|refine Below.alloc ?_ (by first|(simp;done)|(simp;omega)|omega) _|refine Below.setCell ?_ (by first|(simp;done)|(simp;omega)|omega) _))⟩
theorem QHk (p X Z:Int)(h:¬(p=0∧X=0)∧¬(p=0∧X=3)∧¬(p=2∧X=1)):QCo p X Z=[0,0,0,0,0,0,0,0]:=by
 unfold QCo
 rw[if_neg h.1,if_neg h.2.1,if_neg h.2.2]
theorem QMm (p X:Int)(hX:0≤X∧X≤3)(w:World) :
 Calls Tryz.prog 93 #[.int .i64 p,.int .i64 X] w fun e w'=>∃ m,e=.returned m∧Looks w' m p X∧Below w.heap.size w w':=by
 by_cases hA:p=0∧X=0
 · obtain⟨rfl,rfl⟩:=hA
   exact QRn w
 by_cases hB:p=0∧X=3
 · obtain⟨rfl,rfl⟩:=hB
   exact QRq w
 by_cases hC:p=2∧X=1
 · obtain⟨rfl,rfl⟩:=hC
   exact QQs w
 have hn:=Lib.hid (fun Z=>QHk p X Z ⟨hA,hB,hC⟩)
 cases e0:(p==0)<;>cases e2:(p==2)<;>cases x0:(X==0)<;>cases x3:(X==3)<;>cases x1:(X==1)
 all_goals first
  | (exfalso;simp only[beq_iff_eq,beq_eq_false_iff_ne] at e0 e2 x0 x3 x1;omega)
  | (clear hA hB hC
     go_enter Tryz.func93,Tryz.ntmps93
     go_wp2
     go_ret
     exact⟨_,rfl,fun Z h0 h1=>by rw[hn.out];exact QNp Z,(by repeat (first|exact Below.refl _ _|assumption|refine JF ?_ (by assumption)|refine Below.drew ?_|refine Below.alloc ?_ (by first|(simp;done)|(simp;omega)|omega) _|refine Below.setCell ?_ (by first|(simp;done)|(simp;omega)|omega) _))⟩)
theorem QIT:∀ c:Fin 256,(QCo 0 (fx (c.val:Int)) (fz (c.val:Int))).getD (fy (c.val:Int)).toNat 0=QDj (c.val:Int):=by decide +kernel
theorem QN1:∀ c:Fin 256,(QCo 2 (fx (c.val:Int)) (fz (c.val:Int))).getD (fy (c.val:Int)).toNat 0=QFA (c.val:Int):=by decide +kernel
theorem QHh (p X Z:Int):(QCo p X Z).length=8:=by
 unfold QCo QT6 QTn QTj
 repeat' split
 all_goals rfl
theorem QIu (n:Nat):([0,0,0,0,0,0,0,0]:List Int).getD n 0=0:=by
 match n with
 | 0|1|2|3|4|5|6|7=>rfl
 | n+8=>rfl
def zN (p:Int):Int:=if p=3∨p=4 then 0 else p
theorem QOi (p c:Int)(hc:B8 c):(QCo (zN p) (fx c) (fz c)).getD (fy c).toNat 0=Jd p c:=by
 unfold Jd zN
 by_cases h:p=3∨p=4
 · rw[if_pos h,if_pos (by omega)]
   exact Je (P:=fun c=>(QCo 0 (fx c) (fz c)).getD (fy c).toNat 0=QDj c) QIT c hc.1 hc.2
 · rw[if_neg h]
   by_cases h0:p=0
   · subst h0
     rw[if_pos (by omega)]
     exact Je (P:=fun c=>(QCo 0 (fx c) (fz c)).getD (fy c).toNat 0=QDj c) QIT c hc.1 hc.2
   · rw[if_neg (by omega)]
     by_cases h2:p=2
     · subst h2
       rw[if_pos rfl]
       exact Je (P:=fun c=>(QCo 2 (fx c) (fz c)).getD (fy c).toNat 0=QFA c) QN1 c hc.1 hc.2
     · rw[if_neg h2,QHk _ _ _ ⟨by omega,by omega,by omega⟩,QIu]
theorem QQZ (l:List Int)(hl:l.length=8)(y:Int)(hy:0≤y∧y≤7)(w:World):(Instr.index 146 (QLe l) (.int .i64 y)).run Tryz.prog w=.ok (.int .i64 (l.getD y.toNat 0)) w :=
 QEc Tryz.underlying146 (by kernel_rfl) (by kernel_rfl) (by omega) (by
  have h:y.toNat < l.length:=by omega
  simp[h])
theorem XN (p c:Int)(hc:B8 c)(w:World) :
 Calls Tryz.prog 62 #[.int .i64 p,.int .u8 c] w fun e w'=>e=.returned (.int .i64 (Jd p c))∧Below w.heap.size w w':=by
 have bx:=QQ0 c hc
 have bY:=QP7 c hc
 have bz:=QR8 c hc
 have hf:=Lib.hid (qt c hc)
 have hr:=Lib.hid (QOi p c hc)
 have hix:=fun w=>QQZ (QCo (zN p) (fx c) (fz c)) (QHh _ _ _) (fy c) bY w
 have hs:=Lib.hid (QMm (zN p) (fx c) bx)
 by_cases h3:p=3
 · subst h3
   rw[show zN 3=0 from rfl] at hs hr hix
   go_enter Tryz.func62,Tryz.ntmps62
   go_wp2_with (first
    | (go_at_call 53;refine (hf.out _).mono ?_;rintro e w' ⟨rfl,rfl⟩)
    | (go_at_call 93;refine (hs.out _).mono ?_;rintro e w' ⟨m,rfl,hl,hb⟩;have hl:=hl (fz c) bz.1 bz.2))
   go_ret
   exact⟨Jr hr.out,(by repeat (first|exact Below.refl _ _|assumption|refine JF ?_ (by assumption)|refine Below.drew ?_|refine Below.alloc ?_ (by first|(simp;done)|(simp;omega)|omega) _|refine Below.setCell ?_ (by first|(simp;done)|(simp;omega)|omega) _))⟩
 by_cases h4:p=4
 · subst h4
   rw[show zN 4=0 from rfl] at hs hr hix
   go_enter Tryz.func62,Tryz.ntmps62
   go_wp2_with (first
    | (go_at_call 53;refine (hf.out _).mono ?_;rintro e w' ⟨rfl,rfl⟩)
    | (go_at_call 93;refine (hs.out _).mono ?_;rintro e w' ⟨m,rfl,hl,hb⟩;have hl:=hl (fz c) bz.1 bz.2))
   go_ret
   exact⟨Jr hr.out,(by repeat (first|exact Below.refl _ _|assumption|refine JF ?_ (by assumption)|refine Below.drew ?_|refine Below.alloc ?_ (by first|(simp;done)|(simp;omega)|omega) _|refine Below.setCell ?_ (by first|(simp;done)|(simp;omega)|omega) _))⟩
 · rw[show zN p=p by unfold zN;rw[if_neg (by omega)]] at hs hr hix
   have e3:(p==3)=false:=by simpa using h3
   have e4:(p==4)=false:=by simpa using h4
   clear h3 h4
   go_enter Tryz.func62,Tryz.ntmps62
   go_wp2_with (first
    | (go_at_call 53;refine (hf.out _).mono ?_;rintro e w' ⟨rfl,rfl⟩)
    | (go_at_call 93;refine (hs.out _).mono ?_;rintro e w' ⟨m,rfl,hl,hb⟩;have hl:=hl (fz c) bz.1 bz.2))
   go_ret
   exact⟨Jr hr.out,(by repeat (first|exact Below.refl _ _|assumption|refine JF ?_ (by assumption)|refine Below.drew ?_|refine Below.alloc ?_ (by first|(simp;done)|(simp;omega)|omega) _|refine Below.setCell ?_ (by first|(simp;done)|(simp;omega)|omega) _))⟩
end
abbrev nmV (pl c d m le sk:Int):Value:=.agg #[.int .i64 pl,.int .u8 c,.int .u8 d,.int .u16 m,.int .i64 le,.int .i64 sk]
abbrev Xt (pl c d m le sk:Int):Value:=.func (.func 85) #[nmV pl c d m le sk] #[]
abbrev Xq (pl c d m le sk:Int):Value:=.func (.func 86) #[nmV pl c d m le sk] #[]
def QSO:List (List Nat):=ZG++Zn++Xc
theorem sayB (pl d m:Int)(l:List Nat)(h:∀ k∈l,k < 256):say pl d m l=l.map UInt8.ofNat:=by
 induction l with
 | nil=>rfl
 | cons k l ih =>
   have hk:=h k (by simp)
   rw[QBU,ih (fun x hx=>h x (by simp[hx]))]
   unfold tok
   rw[if_neg (by omega),if_neg (by omega),if_neg (by omega),if_neg (by omega)]
   rfl
def sy (pl d m:Int)(l:List Nat):ByteArray:=⟨(say pl d m l).toArray⟩
theorem QND (pl d m:Int)(a b:List Nat):sy pl d m a++sy pl d m b=sy pl d m (a++b):=by
 unfold sy
 rw[jk,QKX]
theorem j0 (pl d m:Int)(l:List Nat)(h:∀ k∈l,k < 256):sb l=sy pl d m l:=by
 unfold sb sy
 rw[sayB pl d m l h]
theorem j8 (pl c d m le sk:Int)(s:ByteArray)(w:World) :
 Calls Tryz.prog 86 #[nmV pl c d m le sk,.string s] w fun e w'=>e=.returned (.string s)∧Below w.heap.size w w':=by
 go_enter Tryz.func86,Tryz.ntmps86
 go_wp2
 go_ret
 exact⟨rfl,(by repeat (first|exact Below.refl _ _|assumption|refine JF ?_ (by assumption)|refine Below.drew ?_|refine Below.alloc ?_ (by first|(simp;done)|(simp;omega)|omega) _|refine Below.setCell ?_ (by first|(simp;done)|(simp;omega)|omega) _))⟩
theorem QS4 (p:Int):ixC p < 256:=by unfold ixC;split<;>omega
theorem QUo (p d m:Int):(⟨[105,UInt8.ofNat (ixC p)].toArray⟩:ByteArray)=sy p d m (ixT p):=by
 unfold sy
 rw[sayB p d m (ixT p) (by unfold ixT;have:=QS4 p;simp;omega)]
 rfl
theorem QHb (p d m:Int):(⟨(QDf p d).toArray⟩:ByteArray)=sy p d m [259]:=by
 unfold sy
 rw[QBU,QKI,List.append_nil]
 rfl
theorem qh (pl c d m le sk:Int)(hp:pl=3∨pl=4)(hc:B8 c)(hd:B8 d)(t:List Nat)(ht:t∈QSO)(w:World)(h:TextTabs w) :
 Calls Tryz.prog 85 #[nmV pl c d m le sk,.string (sb t)] w fun e w'=>e=.returned (.string (sy pl d m (Qv pl (Jp pl c) t)))∧Below w.heap.size w w':=by
 have k1:=Lib.hid (fun w=>QDs pl w)
 have k2:=Lib.hid (fun o=>QDN pl d hd (w.alloc o) (h.below ((Below.refl _ w).alloc (Nat.le_refl _) o)))
 have k3:=Lib.hid (fun w=>ZL pl c hc w)
 have e1:=QUo pl d m
 have e2:=QHb pl d m
 have e3:∀ l,Qv pl (Jp pl c) l=if l=[104,108] then ixT pl else if l=[40,104,108,41] then [259] else if l=[104]∨l=[108] then (if Jp pl c then l else ixT pl++l) else l:=fun l=>by unfold Qv;rw[if_pos hp]
 have e4:(sy pl d m (ixT pl)).size=2:=by rw[←e1];rfl
 rw[e3]
 clear e3 hp h
 generalize Jp pl c=N at *
 simp only[QSO,ZG,Zn,Xc,List.cons_append,List.nil_append,List.mem_cons,List.not_mem_nil,or_false] at ht
 rcases ht with rfl|rfl|rfl|rfl|rfl|rfl|rfl|rfl|rfl|rfl|rfl|rfl|rfl|rfl|rfl|rfl
 all_goals
  simp only[sb,List.map_cons,List.map_nil]
  cases N
  all_goals
   go_enter Tryz.func85,Tryz.ntmps85
   go_wp2_with (first
    | (go_at_call 115;refine (k1.out _).mono ?_;rintro e w' ⟨rfl,rfl⟩)
    | (go_at_call 116;refine (k2.out _).mono ?_;rintro e w' ⟨rfl,hb⟩;have hsz:=hb.size)
    | (go_at_call 60;refine (k3.out _).mono ?_;rintro e w' ⟨rfl,rfl⟩))
 all_goals
  go_ret
  refine⟨jJ ?_,(by repeat (first|exact Below.refl _ _|assumption|refine JF ?_ (by assumption)|refine Below.drew ?_|refine Below.alloc ?_ (by first|(simp;done)|(simp;omega)|omega) _|refine Below.setCell ?_ (by first|(simp;done)|(simp;omega)|omega) _))⟩
  (first
    | rfl
    | exact e1
    | exact e2
    | (rw[show (⟨#[104]⟩:ByteArray)=sy pl d m [104] from rfl,←QND];(try rw[←e1]))
    | (rw[show (⟨#[108]⟩:ByteArray)=sy pl d m [108] from rfl,←QND];(try rw[←e1])))
abbrev shV (pl c d m le sk x y z p q:Int)(f:Value):Value:=.agg #[.int .i64 pl,.int .u8 c,.int .u8 d,.int .u16 m,.int .i64 le,.int .i64 sk,.int .i64 x,.int .i64 y,.int .i64 z,.int .i64 p,.int .i64 q,f]
theorem TextTabs.al {w:World}(h:TextTabs w)(o:Obj):TextTabs (w.alloc o):=h.below ((Below.refl _ w).alloc (Nat.le_refl _) o)
theorem QBE {l:List (List Nat)} {n:Int}(h0:0≤n)(h1:n < l.length):pick l n∈l:=by
 unfold pick
 have:n.toNat < l.length:=by omega
 rw[List.getD_eq_getElem?_getD,List.getElem?_eq_getElem this]
 exact List.getElem_mem this
theorem QCP {w w':World} {p q r:Addr} {u v x:Value}(k:Below w.heap.size w w')(h:w.cell? p=some u∧w.cell? q=some v∧w.cell? r=some x):w'.cell? p=some u∧w'.cell? q=some v∧w'.cell? r=some x :=
 ⟨cell_kept h.1 k,cell_kept h.2.1 k,cell_kept h.2.2 k⟩
theorem QCa (w:World)(pl c d m le sk x y z p q:Int)(f:Value)(t:TypeId)(i j:Nat)(hi:i < 12)(hj:j < 12){r:Addr} {v:Value}(h:(w.alloc (.cells #[.int .i64 pl,.int .u8 c,.int .u8 d,.int .u16 m,.int .i64 le,.int .i64 sk,.int .i64 x,.int .i64 y,.int .i64 z,.int .i64 p,.int .i64 q,f] t)).cell? r=some v) :
 (w.alloc (.cells #[.int .i64 pl,.int .u8 c,.int .u8 d,.int .u16 m,.int .i64 le,.int .i64 sk,.int .i64 x,.int .i64 y,.int .i64 z,.int .i64 p,.int .i64 q,f] t)).cell? ⟨w.heap.size,i,none⟩=some ([.int .i64 pl,.int .u8 c,.int .u8 d,.int .u16 m,.int .i64 le,.int .i64 sk,.int .i64 x,.int .i64 y,.int .i64 z,.int .i64 p,.int .i64 q,f].getD i undef) ∧
 (w.alloc (.cells #[.int .i64 pl,.int .u8 c,.int .u8 d,.int .u16 m,.int .i64 le,.int .i64 sk,.int .i64 x,.int .i64 y,.int .i64 z,.int .i64 p,.int .i64 q,f] t)).cell? ⟨w.heap.size,j,none⟩=some ([.int .i64 pl,.int .u8 c,.int .u8 d,.int .u16 m,.int .i64 le,.int .i64 sk,.int .i64 x,.int .i64 y,.int .i64 z,.int .i64 p,.int .i64 q,f].getD j undef) ∧
 (w.alloc (.cells #[.int .i64 pl,.int .u8 c,.int .u8 d,.int .u16 m,.int .i64 le,.int .i64 sk,.int .i64 x,.int .i64 y,.int .i64 z,.int .i64 p,.int .i64 q,f] t)).cell? r=some v:=by
 have e:∀ k,k < 12→(w.alloc (.cells #[.int .i64 pl,.int .u8 c,.int .u8 d,.int .u16 m,.int .i64 le,.int .i64 sk,.int .i64 x,.int .i64 y,.int .i64 z,.int .i64 p,.int .i64 q,f] t)).cell? ⟨w.heap.size,k,none⟩=some ([.int .i64 pl,.int .u8 c,.int .u8 d,.int .u16 m,.int .i64 le,.int .i64 sk,.int .i64 x,.int .i64 y,.int .i64 z,.int .i64 p,.int .i64 q,f].getD k undef):=by
  intro k hk
  have e2:∀ o:Obj,(w.alloc o).heap[w.heap.size]? = some o:=fun o=>by
   show (w.heap.push _)[w.heap.size]? = _
   simp
  simp only[World.cell?,e2]
  simp[hk]
 exact⟨e i hi,e j hj,h⟩
theorem QQ3 (pl c d m le sk x y z p q:Int)(hp:pl=3∨pl=4)(hc:B8 c)(hd:B8 d)(hi:0≤y∧y≤7)(w:World)(h:TextTabs w) :
 Calls Tryz.prog 87 #[shV pl c d m le sk x y z p q (Xt pl c d m le sk),.string ⟨#[82]⟩] w fun e w'=>e=.returned (.string (sy pl d m (Qv pl (Jp pl c) (pick ZG y))))∧Below w.heap.size w w':=by
 have kn:=Lib.hid (fun W (hW:Below w.heap.size w W)=>qh pl c d m le sk hp hc hd (pick ZG y) (List.mem_append_left _<|List.mem_append_left _<|(QBE hi.1 (by simp[ZG];omega))) W (h.below hW))
 have i0:=hi.1
 have i1:y < 8:=by omega
 clear hi
 have t1:=fun o=>JH w o (h.regs.of QGE y i0 (by simp[ZG];omega))
 generalize sy pl d m (Qv pl (Jp pl c) (pick ZG y))=R at *
 clear hp hc hd
 clear h
 go_enter Tryz.func87,Tryz.ntmps87
 go_wp2_with fail
 have hs:=QCa w pl c d m le sk x y z p q (Xt pl c d m le sk) 110 11 7 (by omega) (by omega) (t1 _)
 simp only[List.getD_cons_zero,List.getD_cons_succ] at hs
 go_region_held3 (fun w'=>w'.cell? ⟨w.heap.size,11,none⟩=some (Xt pl c d m le sk)∧w'.cell? ⟨w.heap.size,7,none⟩=some (.int .i64 y)∧w'.cell? ⟨3,y.toNat,none⟩=some (.string (sb (pick ZG y)))) (first|go_keep|exact QCP hb (by assumption))
  (first
  | (go_at_call 85;refine (kn.out _ ((by repeat (first|exact Below.refl _ _|assumption|refine JF ?_ (by assumption)|refine Below.drew ?_|refine Below.alloc ?_ (by first|(simp;done)|(simp;omega)|omega) _|refine Below.setCell ?_ (by first|(simp;done)|(simp;omega)|omega) _)))).mono ?_;rintro e w' ⟨rfl,hb⟩;have hsz:=hb.size))
 go_wp2
 go_ret
 exact⟨rfl,(by repeat (first|exact Below.refl _ _|assumption|refine JF ?_ (by assumption)|refine Below.drew ?_|refine Below.alloc ?_ (by first|(simp;done)|(simp;omega)|omega) _|refine Below.setCell ?_ (by first|(simp;done)|(simp;omega)|omega) _))⟩
theorem QRz (pl c d m le sk x y z p q:Int)(hp:pl=3∨pl=4)(hc:B8 c)(hd:B8 d)(hi:0≤z∧z≤7)(w:World)(h:TextTabs w) :
 Calls Tryz.prog 87 #[shV pl c d m le sk x y z p q (Xt pl c d m le sk),.string ⟨#[83]⟩] w fun e w'=>e=.returned (.string (sy pl d m (Qv pl (Jp pl c) (pick ZG z))))∧Below w.heap.size w w':=by
 have kn:=Lib.hid (fun W (hW:Below w.heap.size w W)=>qh pl c d m le sk hp hc hd (pick ZG z) (List.mem_append_left _<|List.mem_append_left _<|(QBE hi.1 (by simp[ZG];omega))) W (h.below hW))
 have i0:=hi.1
 have i1:z < 8:=by omega
 clear hi
 have t1:=fun o=>JH w o (h.regs.of QGE z i0 (by simp[ZG];omega))
 generalize sy pl d m (Qv pl (Jp pl c) (pick ZG z))=R at *
 clear hp hc hd
 clear h
 go_enter Tryz.func87,Tryz.ntmps87
 go_wp2_with fail
 have hs:=QCa w pl c d m le sk x y z p q (Xt pl c d m le sk) 110 11 8 (by omega) (by omega) (t1 _)
 simp only[List.getD_cons_zero,List.getD_cons_succ] at hs
 go_region_held3 (fun w'=>w'.cell? ⟨w.heap.size,11,none⟩=some (Xt pl c d m le sk)∧w'.cell? ⟨w.heap.size,8,none⟩=some (.int .i64 z)∧w'.cell? ⟨3,z.toNat,none⟩=some (.string (sb (pick ZG z)))) (first|go_keep|exact QCP hb (by assumption))
  (first
  | (go_at_call 85;refine (kn.out _ ((by repeat (first|exact Below.refl _ _|assumption|refine JF ?_ (by assumption)|refine Below.drew ?_|refine Below.alloc ?_ (by first|(simp;done)|(simp;omega)|omega) _|refine Below.setCell ?_ (by first|(simp;done)|(simp;omega)|omega) _)))).mono ?_;rintro e w' ⟨rfl,hb⟩;have hsz:=hb.size))
 go_wp2
 go_ret
 exact⟨rfl,(by repeat (first|exact Below.refl _ _|assumption|refine JF ?_ (by assumption)|refine Below.drew ?_|refine Below.alloc ?_ (by first|(simp;done)|(simp;omega)|omega) _|refine Below.setCell ?_ (by first|(simp;done)|(simp;omega)|omega) _))⟩
theorem QPt (pl c d m le sk x y z p q:Int)(hp:pl=3∨pl=4)(hc:B8 c)(hd:B8 d)(hi:0≤p∧p≤3)(w:World)(h:TextTabs w) :
 Calls Tryz.prog 87 #[shV pl c d m le sk x y z p q (Xt pl c d m le sk),.string ⟨#[80]⟩] w fun e w'=>e=.returned (.string (sy pl d m (Qv pl (Jp pl c) (pick Zn p))))∧Below w.heap.size w w':=by
 have kn:=Lib.hid (fun W (hW:Below w.heap.size w W)=>qh pl c d m le sk hp hc hd (pick Zn p) (List.mem_append_left _<|List.mem_append_right _<|(QBE hi.1 (by simp[Zn];omega))) W (h.below hW))
 have i0:=hi.1
 have i1:p < 4:=by omega
 clear hi
 have t1:=fun o=>JH w o (h.pairs.of QKb p i0 (by simp[Zn];omega))
 generalize sy pl d m (Qv pl (Jp pl c) (pick Zn p))=R at *
 clear hp hc hd
 clear h
 go_enter Tryz.func87,Tryz.ntmps87
 go_wp2_with fail
 have hs:=QCa w pl c d m le sk x y z p q (Xt pl c d m le sk) 110 11 9 (by omega) (by omega) (t1 _)
 simp only[List.getD_cons_zero,List.getD_cons_succ] at hs
 go_region_held3 (fun w'=>w'.cell? ⟨w.heap.size,11,none⟩=some (Xt pl c d m le sk)∧w'.cell? ⟨w.heap.size,9,none⟩=some (.int .i64 p)∧w'.cell? ⟨4,p.toNat,none⟩=some (.string (sb (pick Zn p)))) (first|go_keep|exact QCP hb (by assumption))
  (first
  | (go_at_call 85;refine (kn.out _ ((by repeat (first|exact Below.refl _ _|assumption|refine JF ?_ (by assumption)|refine Below.drew ?_|refine Below.alloc ?_ (by first|(simp;done)|(simp;omega)|omega) _|refine Below.setCell ?_ (by first|(simp;done)|(simp;omega)|omega) _)))).mono ?_;rintro e w' ⟨rfl,hb⟩;have hsz:=hb.size))
 go_wp2
 go_ret
 exact⟨rfl,(by repeat (first|exact Below.refl _ _|assumption|refine JF ?_ (by assumption)|refine Below.drew ?_|refine Below.alloc ?_ (by first|(simp;done)|(simp;omega)|omega) _|refine Below.setCell ?_ (by first|(simp;done)|(simp;omega)|omega) _))⟩
theorem QRi (pl c d m le sk x y z p q:Int)(hp:pl=3∨pl=4)(hc:B8 c)(hd:B8 d)(hi:0≤p∧p≤3)(w:World)(h:TextTabs w) :
 Calls Tryz.prog 87 #[shV pl c d m le sk x y z p q (Xt pl c d m le sk),.string ⟨#[81]⟩] w fun e w'=>e=.returned (.string (sy pl d m (Qv pl (Jp pl c) (pick Xc p))))∧Below w.heap.size w w':=by
 have kn:=Lib.hid (fun W (hW:Below w.heap.size w W)=>qh pl c d m le sk hp hc hd (pick Xc p) (List.mem_append_right _<|(QBE hi.1 (by simp[Xc];omega))) W (h.below hW))
 have i0:=hi.1
 have i1:p < 4:=by omega
 clear hi
 have t1:=fun o=>JH w o (h.stacked.of QE3 p i0 (by simp[Xc];omega))
 generalize sy pl d m (Qv pl (Jp pl c) (pick Xc p))=R at *
 clear hp hc hd
 clear h
 go_enter Tryz.func87,Tryz.ntmps87
 go_wp2_with fail
 have hs:=QCa w pl c d m le sk x y z p q (Xt pl c d m le sk) 110 11 9 (by omega) (by omega) (t1 _)
 simp only[List.getD_cons_zero,List.getD_cons_succ] at hs
 go_region_held3 (fun w'=>w'.cell? ⟨w.heap.size,11,none⟩=some (Xt pl c d m le sk)∧w'.cell? ⟨w.heap.size,9,none⟩=some (.int .i64 p)∧w'.cell? ⟨5,p.toNat,none⟩=some (.string (sb (pick Xc p)))) (first|go_keep|exact QCP hb (by assumption))
  (first
  | (go_at_call 85;refine (kn.out _ ((by repeat (first|exact Below.refl _ _|assumption|refine JF ?_ (by assumption)|refine Below.drew ?_|refine Below.alloc ?_ (by first|(simp;done)|(simp;omega)|omega) _|refine Below.setCell ?_ (by first|(simp;done)|(simp;omega)|omega) _)))).mono ?_;rintro e w' ⟨rfl,hb⟩;have hsz:=hb.size))
 go_wp2
 go_ret
 exact⟨rfl,(by repeat (first|exact Below.refl _ _|assumption|refine JF ?_ (by assumption)|refine Below.drew ?_|refine Below.alloc ?_ (by first|(simp;done)|(simp;omega)|omega) _|refine Below.setCell ?_ (by first|(simp;done)|(simp;omega)|omega) _))⟩
theorem QRk (pl c d m le sk x y z p q:Int)(hp:pl=3∨pl=4)(hc:B8 c)(hd:B8 d)(w:World)(h:TextTabs w) :
 Calls Tryz.prog 87 #[shV pl c d m le sk x y z p q (Xt pl c d m le sk),.string ⟨#[72]⟩] w fun e w'=>e=.returned (.string (sy pl d m (Qv pl (Jp pl c) [104,108])))∧Below w.heap.size w w':=by
 have kn:=Lib.hid (fun W (hW:Below w.heap.size w W)=>qh pl c d m le sk hp hc hd [104,108] (by decide) W (h.below hW))
 generalize sy pl d m (Qv pl (Jp pl c) [104,108])=R at *
 clear hp hc hd
 have kn:=Lib.hid (show ∀ W (hW:Below w.heap.size w W),Calls Tryz.prog 85 #[nmV pl c d m le sk,.string ⟨#[104,108]⟩] W fun e w'=>e=.returned (.string R)∧Below W.heap.size W w' from kn.out)
 clear h
 go_enter Tryz.func87,Tryz.ntmps87
 go_wp2_with (first
  | (go_at_call 85;refine (kn.out _ ((by repeat (first|exact Below.refl _ _|assumption|refine JF ?_ (by assumption)|refine Below.drew ?_|refine Below.alloc ?_ (by first|(simp;done)|(simp;omega)|omega) _|refine Below.setCell ?_ (by first|(simp;done)|(simp;omega)|omega) _)))).mono ?_;rintro e w' ⟨rfl,hb⟩;have hsz:=hb.size))
 go_ret
 exact⟨rfl,(by repeat (first|exact Below.refl _ _|assumption|refine JF ?_ (by assumption)|refine Below.drew ?_|refine Below.alloc ?_ (by first|(simp;done)|(simp;omega)|omega) _|refine Below.setCell ?_ (by first|(simp;done)|(simp;omega)|omega) _))⟩
theorem QRV (pl c d m le sk x y z p q:Int)  (hi:0≤y∧y≤7)(w:World)(h:TextTabs w) :
 Calls Tryz.prog 87 #[shV pl c d m le sk x y z p q (Xq pl c d m le sk),.string ⟨#[82]⟩] w fun e w'=>e=.returned (.string (sb (pick ZG y)))∧Below w.heap.size w w':=by
 have kn:=Lib.hid (fun W (hW:Below w.heap.size w W)=>j8 pl c d m le sk (sb (pick ZG y)) W)
 have i0:=hi.1
 have i1:y < 8:=by omega
 clear hi
 have t1:=fun o=>JH w o (h.regs.of QGE y i0 (by simp[ZG];omega))
 clear h
 go_enter Tryz.func87,Tryz.ntmps87
 go_wp2_with fail
 have hs:=QCa w pl c d m le sk x y z p q (Xq pl c d m le sk) 110 11 7 (by omega) (by omega) (t1 _)
 simp only[List.getD_cons_zero,List.getD_cons_succ] at hs
 go_region_held3 (fun w'=>w'.cell? ⟨w.heap.size,11,none⟩=some (Xq pl c d m le sk)∧w'.cell? ⟨w.heap.size,7,none⟩=some (.int .i64 y)∧w'.cell? ⟨3,y.toNat,none⟩=some (.string (sb (pick ZG y)))) (first|go_keep|exact QCP hb (by assumption))
  (first
  | (go_at_call 86;refine (kn.out _ ((by repeat (first|exact Below.refl _ _|assumption|refine JF ?_ (by assumption)|refine Below.drew ?_|refine Below.alloc ?_ (by first|(simp;done)|(simp;omega)|omega) _|refine Below.setCell ?_ (by first|(simp;done)|(simp;omega)|omega) _)))).mono ?_;rintro e w' ⟨rfl,hb⟩;have hsz:=hb.size))
 go_wp2
 go_ret
 exact⟨rfl,(by repeat (first|exact Below.refl _ _|assumption|refine JF ?_ (by assumption)|refine Below.drew ?_|refine Below.alloc ?_ (by first|(simp;done)|(simp;omega)|omega) _|refine Below.setCell ?_ (by first|(simp;done)|(simp;omega)|omega) _))⟩
theorem QP6 (pl c d m le sk x y z p q:Int)  (hi:0≤z∧z≤7)(w:World)(h:TextTabs w) :
 Calls Tryz.prog 87 #[shV pl c d m le sk x y z p q (Xq pl c d m le sk),.string ⟨#[83]⟩] w fun e w'=>e=.returned (.string (sb (pick ZG z)))∧Below w.heap.size w w':=by
 have kn:=Lib.hid (fun W (hW:Below w.heap.size w W)=>j8 pl c d m le sk (sb (pick ZG z)) W)
 have i0:=hi.1
 have i1:z < 8:=by omega
 clear hi
 have t1:=fun o=>JH w o (h.regs.of QGE z i0 (by simp[ZG];omega))
 clear h
 go_enter Tryz.func87,Tryz.ntmps87
 go_wp2_with fail
 have hs:=QCa w pl c d m le sk x y z p q (Xq pl c d m le sk) 110 11 8 (by omega) (by omega) (t1 _)
 simp only[List.getD_cons_zero,List.getD_cons_succ] at hs
 go_region_held3 (fun w'=>w'.cell? ⟨w.heap.size,11,none⟩=some (Xq pl c d m le sk)∧w'.cell? ⟨w.heap.size,8,none⟩=some (.int .i64 z)∧w'.cell? ⟨3,z.toNat,none⟩=some (.string (sb (pick ZG z)))) (first|go_keep|exact QCP hb (by assumption))
  (first
  | (go_at_call 86;refine (kn.out _ ((by repeat (first|exact Below.refl _ _|assumption|refine JF ?_ (by assumption)|refine Below.drew ?_|refine Below.alloc ?_ (by first|(simp;done)|(simp;omega)|omega) _|refine Below.setCell ?_ (by first|(simp;done)|(simp;omega)|omega) _)))).mono ?_;rintro e w' ⟨rfl,hb⟩;have hsz:=hb.size))
 go_wp2
 go_ret
 exact⟨rfl,(by repeat (first|exact Below.refl _ _|assumption|refine JF ?_ (by assumption)|refine Below.drew ?_|refine Below.alloc ?_ (by first|(simp;done)|(simp;omega)|omega) _|refine Below.setCell ?_ (by first|(simp;done)|(simp;omega)|omega) _))⟩
theorem QRG (pl c d m le sk x y z p q:Int)  (hi:0≤p∧p≤3)(w:World)(h:TextTabs w) :
 Calls Tryz.prog 87 #[shV pl c d m le sk x y z p q (Xq pl c d m le sk),.string ⟨#[80]⟩] w fun e w'=>e=.returned (.string (sb (pick Zn p)))∧Below w.heap.size w w':=by
 have kn:=Lib.hid (fun W (hW:Below w.heap.size w W)=>j8 pl c d m le sk (sb (pick Zn p)) W)
 have i0:=hi.1
 have i1:p < 4:=by omega
 clear hi
 have t1:=fun o=>JH w o (h.pairs.of QKb p i0 (by simp[Zn];omega))
 clear h
 go_enter Tryz.func87,Tryz.ntmps87
 go_wp2_with fail
 have hs:=QCa w pl c d m le sk x y z p q (Xq pl c d m le sk) 110 11 9 (by omega) (by omega) (t1 _)
 simp only[List.getD_cons_zero,List.getD_cons_succ] at hs
 go_region_held3 (fun w'=>w'.cell? ⟨w.heap.size,11,none⟩=some (Xq pl c d m le sk)∧w'.cell? ⟨w.heap.size,9,none⟩=some (.int .i64 p)∧w'.cell? ⟨4,p.toNat,none⟩=some (.string (sb (pick Zn p)))) (first|go_keep|exact QCP hb (by assumption))
  (first
  | (go_at_call 86;refine (kn.out _ ((by repeat (first|exact Below.refl _ _|assumption|refine JF ?_ (by assumption)|refine Below.drew ?_|refine Below.alloc ?_ (by first|(simp;done)|(simp;omega)|omega) _|refine Below.setCell ?_ (by first|(simp;done)|(simp;omega)|omega) _)))).mono ?_;rintro e w' ⟨rfl,hb⟩;have hsz:=hb.size))
 go_wp2
 go_ret
 exact⟨rfl,(by repeat (first|exact Below.refl _ _|assumption|refine JF ?_ (by assumption)|refine Below.drew ?_|refine Below.alloc ?_ (by first|(simp;done)|(simp;omega)|omega) _|refine Below.setCell ?_ (by first|(simp;done)|(simp;omega)|omega) _))⟩
theorem QRl (pl c d m le sk x y z p q:Int)  (hi:0≤p∧p≤3)(w:World)(h:TextTabs w) :
 Calls Tryz.prog 87 #[shV pl c d m le sk x y z p q (Xq pl c d m le sk),.string ⟨#[81]⟩] w fun e w'=>e=.returned (.string (sb (pick Xc p)))∧Below w.heap.size w w':=by
 have kn:=Lib.hid (fun W (hW:Below w.heap.size w W)=>j8 pl c d m le sk (sb (pick Xc p)) W)
 have i0:=hi.1
 have i1:p < 4:=by omega
 clear hi
 have t1:=fun o=>JH w o (h.stacked.of QE3 p i0 (by simp[Xc];omega))
 clear h
 go_enter Tryz.func87,Tryz.ntmps87
 go_wp2_with fail
 have hs:=QCa w pl c d m le sk x y z p q (Xq pl c d m le sk) 110 11 9 (by omega) (by omega) (t1 _)
 simp only[List.getD_cons_zero,List.getD_cons_succ] at hs
 go_region_held3 (fun w'=>w'.cell? ⟨w.heap.size,11,none⟩=some (Xq pl c d m le sk)∧w'.cell? ⟨w.heap.size,9,none⟩=some (.int .i64 p)∧w'.cell? ⟨5,p.toNat,none⟩=some (.string (sb (pick Xc p)))) (first|go_keep|exact QCP hb (by assumption))
  (first
  | (go_at_call 86;refine (kn.out _ ((by repeat (first|exact Below.refl _ _|assumption|refine JF ?_ (by assumption)|refine Below.drew ?_|refine Below.alloc ?_ (by first|(simp;done)|(simp;omega)|omega) _|refine Below.setCell ?_ (by first|(simp;done)|(simp;omega)|omega) _)))).mono ?_;rintro e w' ⟨rfl,hb⟩;have hsz:=hb.size))
 go_wp2
 go_ret
 exact⟨rfl,(by repeat (first|exact Below.refl _ _|assumption|refine JF ?_ (by assumption)|refine Below.drew ?_|refine Below.alloc ?_ (by first|(simp;done)|(simp;omega)|omega) _|refine Below.setCell ?_ (by first|(simp;done)|(simp;omega)|omega) _))⟩
theorem QSF (pl c d m le sk x y z p q:Int)  (w:World)(h:TextTabs w) :
 Calls Tryz.prog 87 #[shV pl c d m le sk x y z p q (Xq pl c d m le sk),.string ⟨#[72]⟩] w fun e w'=>e=.returned (.string (sb [104,108]))∧Below w.heap.size w w':=by
 have kn:=Lib.hid (fun W (hW:Below w.heap.size w W)=>j8 pl c d m le sk (sb [104,108]) W)
 generalize hR:sb [104,108]=R at *
 have kn:=Lib.hid (show ∀ W (hW:Below w.heap.size w W),Calls Tryz.prog 86 #[nmV pl c d m le sk,.string ⟨#[104,108]⟩] W fun e w'=>e=.returned (.string R)∧Below W.heap.size W w' from hR▸kn.out)
 clear h
 go_enter Tryz.func87,Tryz.ntmps87
 go_wp2_with (first
  | (go_at_call 86;refine (kn.out _ ((by repeat (first|exact Below.refl _ _|assumption|refine JF ?_ (by assumption)|refine Below.drew ?_|refine Below.alloc ?_ (by first|(simp;done)|(simp;omega)|omega) _|refine Below.setCell ?_ (by first|(simp;done)|(simp;omega)|omega) _)))).mono ?_;rintro e w' ⟨rfl,hb⟩;have hsz:=hb.size))
 go_ret
 exact⟨rfl,(by repeat (first|exact Below.refl _ _|assumption|refine JF ?_ (by assumption)|refine Below.drew ?_|refine Below.alloc ?_ (by first|(simp;done)|(simp;omega)|omega) _|refine Below.setCell ?_ (by first|(simp;done)|(simp;omega)|omega) _))⟩
end Go.Proofs.YtbhaojlikgdgjaaGreatDoor
