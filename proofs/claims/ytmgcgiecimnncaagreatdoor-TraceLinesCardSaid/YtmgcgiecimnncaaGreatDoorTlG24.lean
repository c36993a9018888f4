/- Contracts and facts that the claim's proof wants (several texts in one). -/
import Derived.Test.YtmgcgiecimnncaaGreatDoorTlG9
import Derived.Test.YtmgcgiecimnncaaGreatDoorTlG23
namespace Go.Proofs.YtmgcgiecimnncaaGreatDoor
open Go.RowKit
set_option linter.unusedVariables false
set_option linter.unusedSimpArgs false
set_option maxRecDepth 20000
set_option maxHeartbeats 20000000
section
theorem QPR (W:World)(b:Nat)(hb:b=W.heap.size) :
 (Instr.mapUpdate 138 (.map (some b)) (.int .i64 0) (.agg #[.int .i64 0,.int .i64 0,.int .i64 1,.int .i64 1,.int .i64 1,.int .i64 1,.int .i64 1,.int .i64 1])).run Tryz.prog (W.alloc (.map #[] 0))=.ok () (W.alloc (.map #[⟨.int .i64 0,.agg #[.int .i64 0,.int .i64 0,.int .i64 1,.int .i64 1,.int .i64 1,.int .i64 1,.int .i64 1,.int .i64 1],0⟩] 1)) :=
 JJ W _ _ _ Tryz.underlying138 Tryz.underlying3 _ _ _ _ b hb rfl
theorem QO6 (W:World)(b:Nat)(hb:b=W.heap.size) :
 (Instr.mapUpdate 138 (.map (some b)) (.int .i64 1) (.agg #[.int .i64 2,.int .i64 0,.int .i64 2,.int .i64 0,.int .i64 2,.int .i64 0,.int .i64 2,.int .i64 0])).run Tryz.prog (W.alloc (.map #[⟨.int .i64 0,.agg #[.int .i64 0,.int .i64 0,.int .i64 1,.int .i64 1,.int .i64 1,.int .i64 1,.int .i64 1,.int .i64 1],0⟩] 1))=.ok () (W.alloc (.map #[⟨.int .i64 0,.agg #[.int .i64 0,.int .i64 0,.int .i64 1,.int .i64 1,.int .i64 1,.int .i64 1,.int .i64 1,.int .i64 1],0⟩,⟨.int .i64 1,.agg #[.int .i64 2,.int .i64 0,.int .i64 2,.int .i64 0,.int .i64 2,.int .i64 0,.int .i64 2,.int .i64 0],1⟩] 2)) :=
 JJ W _ _ _ Tryz.underlying138 Tryz.underlying3 _ _ _ _ b hb rfl
theorem QQf (W:World)(b:Nat)(hb:b=W.heap.size) :
 (Instr.mapUpdate 138 (.map (some b)) (.int .i64 2) (.agg #[.int .i64 0,.int .i64 0,.int .i64 0,.int .i64 0,.int .i64 2,.int .i64 2,.int .i64 2,.int .i64 2])).run Tryz.prog (W.alloc (.map #[⟨.int .i64 0,.agg #[.int .i64 0,.int .i64 0,.int .i64 1,.int .i64 1,.int .i64 1,.int .i64 1,.int .i64 1,.int .i64 1],0⟩,⟨.int .i64 1,.agg #[.int .i64 2,.int .i64 0,.int .i64 2,.int .i64 0,.int .i64 2,.int .i64 0,.int .i64 2,.int .i64 0],1⟩] 2))=.ok () (W.alloc (.map #[⟨.int .i64 0,.agg #[.int .i64 0,.int .i64 0,.int .i64 1,.int .i64 1,.int .i64 1,.int .i64 1,.int .i64 1,.int .i64 1],0⟩,⟨.int .i64 1,.agg #[.int .i64 2,.int .i64 0,.int .i64 2,.int .i64 0,.int .i64 2,.int .i64 0,.int .i64 2,.int .i64 0],1⟩,⟨.int .i64 2,.agg #[.int .i64 0,.int .i64 0,.int .i64 0,.int .i64 0,.int .i64 2,.int .i64 2,.int .i64 2,.int .i64 2],2⟩] 3)) :=
 JJ W _ _ _ Tryz.underlying138 Tryz.underlying3 _ _ _ _ b hb rfl
theorem QP9 (W:World)(b:Nat)(hb:b=W.heap.size) :
 (Instr.mapUpdate 138 (.map (some b)) (.int .i64 6) (.agg #[.int .i64 1,.int .i64 1,.int .i64 1,.int .i64 1,.int .i64 1,.int .i64 1,.int .i64 1,.int .i64 1])).run Tryz.prog (W.alloc (.map #[⟨.int .i64 0,.agg #[.int .i64 0,.int .i64 0,.int .i64 1,.int .i64 1,.int .i64 1,.int .i64 1,.int .i64 1,.int .i64 1],0⟩,⟨.int .i64 1,.agg #[.int .i64 2,.int .i64 0,.int .i64 2,.int .i64 0,.int .i64 2,.int .i64 0,.int .i64 2,.int .i64 0],1⟩,⟨.int .i64 2,.agg #[.int .i64 0,.int .i64 0,.int .i64 0,.int .i64 0,.int .i64 2,.int .i64 2,.int .i64 2,.int .i64 2],2⟩] 3))=.ok () (W.alloc (.map #[⟨.int .i64 0,.agg #[.int .i64 0,.int .i64 0,.int .i64 1,.int .i64 1,.int .i64 1,.int .i64 1,.int .i64 1,.int .i64 1],0⟩,⟨.int .i64 1,.agg #[.int .i64 2,.int .i64 0,.int .i64 2,.int .i64 0,.int .i64 2,.int .i64 0,.int .i64 2,.int .i64 0],1⟩,⟨.int .i64 2,.agg #[.int .i64 0,.int .i64 0,.int .i64 0,.int .i64 0,.int .i64 2,.int .i64 2,.int .i64 2,.int .i64 2],2⟩,⟨.int .i64 6,.agg #[.int .i64 1,.int .i64 1,.int .i64 1,.int .i64 1,.int .i64 1,.int .i64 1,.int .i64 1,.int .i64 1],3⟩] 4)) :=
 JJ W _ _ _ Tryz.underlying138 Tryz.underlying3 _ _ _ _ b hb rfl
theorem QQv (W:World)(b:Nat)(hb:b=W.heap.size) :
 (Instr.mapUpdate 138 (.map (some b)) (.int .i64 2) (.agg #[.int .i64 2,.int .i64 2,.int .i64 2,.int .i64 2,.int .i64 2,.int .i64 2,.int .i64 2,.int .i64 2])).run Tryz.prog (W.alloc (.map #[] 0))=.ok () (W.alloc (.map #[⟨.int .i64 2,.agg #[.int .i64 2,.int .i64 2,.int .i64 2,.int .i64 2,.int .i64 2,.int .i64 2,.int .i64 2,.int .i64 2],0⟩] 1)) :=
 JJ W _ _ _ Tryz.underlying138 Tryz.underlying3 _ _ _ _ b hb rfl
theorem QOs (W:World)(b:Nat)(hb:b=W.heap.size) :
 (Instr.mapUpdate 138 (.map (some b)) (.int .i64 3) (.agg #[.int .i64 2,.int .i64 0,.int .i64 1,.int .i64 1,.int .i64 0,.int .i64 0,.int .i64 0,.int .i64 0])).run Tryz.prog (W.alloc (.map #[⟨.int .i64 2,.agg #[.int .i64 2,.int .i64 2,.int .i64 2,.int .i64 2,.int .i64 2,.int .i64 2,.int .i64 2,.int .i64 2],0⟩] 1))=.ok () (W.alloc (.map #[⟨.int .i64 2,.agg #[.int .i64 2,.int .i64 2,.int .i64 2,.int .i64 2,.int .i64 2,.int .i64 2,.int .i64 2,.int .i64 2],0⟩,⟨.int .i64 3,.agg #[.int .i64 2,.int .i64 0,.int .i64 1,.int .i64 1,.int .i64 0,.int .i64 0,.int .i64 0,.int .i64 0],1⟩] 2)) :=
 JJ W _ _ _ Tryz.underlying138 Tryz.underlying3 _ _ _ _ b hb rfl
theorem QOw (W:World)(b:Nat)(hb:b=W.heap.size) :
 (Instr.mapUpdate 138 (.map (some b)) (.int .i64 4) (.agg #[.int .i64 2,.int .i64 2,.int .i64 2,.int .i64 2,.int .i64 2,.int .i64 2,.int .i64 2,.int .i64 2])).run Tryz.prog (W.alloc (.map #[⟨.int .i64 2,.agg #[.int .i64 2,.int .i64 2,.int .i64 2,.int .i64 2,.int .i64 2,.int .i64 2,.int .i64 2,.int .i64 2],0⟩,⟨.int .i64 3,.agg #[.int .i64 2,.int .i64 0,.int .i64 1,.int .i64 1,.int .i64 0,.int .i64 0,.int .i64 0,.int .i64 0],1⟩] 2))=.ok () (W.alloc (.map #[⟨.int .i64 2,.agg #[.int .i64 2,.int .i64 2,.int .i64 2,.int .i64 2,.int .i64 2,.int .i64 2,.int .i64 2,.int .i64 2],0⟩,⟨.int .i64 3,.agg #[.int .i64 2,.int .i64 0,.int .i64 1,.int .i64 1,.int .i64 0,.int .i64 0,.int .i64 0,.int .i64 0],1⟩,⟨.int .i64 4,.agg #[.int .i64 2,.int .i64 2,.int .i64 2,.int .i64 2,.int .i64 2,.int .i64 2,.int .i64 2,.int .i64 2],2⟩] 3)) :=
 JJ W _ _ _ Tryz.underlying138 Tryz.underlying3 _ _ _ _ b hb rfl
theorem QPc (W:World)(b:Nat)(hb:b=W.heap.size) :
 (Instr.mapUpdate 138 (.map (some b)) (.int .i64 5) (.agg #[.int .i64 0,.int .i64 2,.int .i64 0,.int .i64 0,.int .i64 0,.int .i64 0,.int .i64 0,.int .i64 0])).run Tryz.prog (W.alloc (.map #[⟨.int .i64 2,.agg #[.int .i64 2,.int .i64 2,.int .i64 2,.int .i64 2,.int .i64 2,.int .i64 2,.int .i64 2,.int .i64 2],0⟩,⟨.int .i64 3,.agg #[.int .i64 2,.int .i64 0,.int .i64 1,.int .i64 1,.int .i64 0,.int .i64 0,.int .i64 0,.int .i64 0],1⟩,⟨.int .i64 4,.agg #[.int .i64 2,.int .i64 2,.int .i64 2,.int .i64 2,.int .i64 2,.int .i64 2,.int .i64 2,.int .i64 2],2⟩] 3))=.ok () (W.alloc (.map #[⟨.int .i64 2,.agg #[.int .i64 2,.int .i64 2,.int .i64 2,.int .i64 2,.int .i64 2,.int .i64 2,.int .i64 2,.int .i64 2],0⟩,⟨.int .i64 3,.agg #[.int .i64 2,.int .i64 0,.int .i64 1,.int .i64 1,.int .i64 0,.int .i64 0,.int .i64 0,.int .i64 0],1⟩,⟨.int .i64 4,.agg #[.int .i64 2,.int .i64 2,.int .i64 2,.int .i64 2,.int .i64 2,.int .i64 2,.int .i64 2,.int .i64 2],2⟩,⟨.int .i64 5,.agg #[.int .i64 0,.int .i64 2,.int .i64 0,.int .i64 0,.int .i64 0,.int .i64 0,.int .i64 0,.int .i64 0],3⟩] 4)) :=
 JJ W _ _ _ Tryz.underlying138 Tryz.underlying3 _ _ _ _ b hb rfl
theorem QOZ (W:World)(b:Nat)(hb:b=W.heap.size) :
 (Instr.mapUpdate 138 (.map (some b)) (.int .i64 6) (.agg #[.int .i64 1,.int .i64 1,.int .i64 1,.int .i64 1,.int .i64 1,.int .i64 1,.int .i64 1,.int .i64 1])).run Tryz.prog (W.alloc (.map #[⟨.int .i64 2,.agg #[.int .i64 2,.int .i64 2,.int .i64 2,.int .i64 2,.int .i64 2,.int .i64 2,.int .i64 2,.int .i64 2],0⟩,⟨.int .i64 3,.agg #[.int .i64 2,.int .i64 0,.int .i64 1,.int .i64 1,.int .i64 0,.int .i64 0,.int .i64 0,.int .i64 0],1⟩,⟨.int .i64 4,.agg #[.int .i64 2,.int .i64 2,.int .i64 2,.int .i64 2,.int .i64 2,.int .i64 2,.int .i64 2,.int .i64 2],2⟩,⟨.int .i64 5,.agg #[.int .i64 0,.int .i64 2,.int .i64 0,.int .i64 0,.int .i64 0,.int .i64 0,.int .i64 0,.int .i64 0],3⟩] 4))=.ok () (W.alloc (.map #[⟨.int .i64 2,.agg #[.int .i64 2,.int .i64 2,.int .i64 2,.int .i64 2,.int .i64 2,.int .i64 2,.int .i64 2,.int .i64 2],0⟩,⟨.int .i64 3,.agg #[.int .i64 2,.int .i64 0,.int .i64 1,.int .i64 1,.int .i64 0,.int .i64 0,.int .i64 0,.int .i64 0],1⟩,⟨.int .i64 4,.agg #[.int .i64 2,.int .i64 2,.int .i64 2,.int .i64 2,.int .i64 2,.int .i64 2,.int .i64 2,.int .i64 2],2⟩,⟨.int .i64 5,.agg #[.int .i64 0,.int .i64 2,.int .i64 0,.int .i64 0,.int .i64 0,.int .i64 0,.int .i64 0,.int .i64 0],3⟩,⟨.int .i64 6,.agg #[.int .i64 1,.int .i64 1,.int .i64 1,.int .i64 1,.int .i64 1,.int .i64 1,.int .i64 1,.int .i64 1],4⟩] 5)) :=
 JJ W _ _ _ Tryz.underlying138 Tryz.underlying3 _ _ _ _ b hb rfl
theorem QPm (W:World)(b:Nat)(hb:b=W.heap.size) :
 (Instr.mapUpdate 138 (.map (some b)) (.int .i64 3) (.agg #[.int .i64 2,.int .i64 2,.int .i64 2,.int .i64 2,.int .i64 2,.int .i64 2,.int .i64 2,.int .i64 2])).run Tryz.prog (W.alloc (.map #[] 0))=.ok () (W.alloc (.map #[⟨.int .i64 3,.agg #[.int .i64 2,.int .i64 2,.int .i64 2,.int .i64 2,.int .i64 2,.int .i64 2,.int .i64 2,.int .i64 2],0⟩] 1)) :=
 JJ W _ _ _ Tryz.underlying138 Tryz.underlying3 _ _ _ _ b hb rfl
attribute [local go_sem] QPR QO6 QQf QP9 QQv QOs QOw QPc QOZ QPm
def QVe (Z:Int):List Int:=if Z=0 then [0,0,1,1,1,1,1,1] else if Z=1 then [2,0,2,0,2,0,2,0] else if Z=2 then [0,0,0,0,2,2,2,2] else if Z=6 then [1,1,1,1,1,1,1,1] else [0,0,0,0,0,0,0,0]
def QVM (Z:Int):List Int:=if Z=2 then [2,2,2,2,2,2,2,2] else if Z=3 then [2,0,1,1,0,0,0,0] else if Z=4 then [2,2,2,2,2,2,2,2] else if Z=5 then [0,2,0,0,0,0,0,0] else if Z=6 then [1,1,1,1,1,1,1,1] else [0,0,0,0,0,0,0,0]
def QVr (Z:Int):List Int:=if Z=3 then [2,2,2,2,2,2,2,2] else [0,0,0,0,0,0,0,0]
def QDo (p X Z:Int):List Int:=if p=0∧X=0 then QVe Z else if p=0∧X=3 then QVM Z else if p=2∧X=1 then QVr Z else [0,0,0,0,0,0,0,0]
def QNc (l:List Int):Value:=.agg (l.map (fun n=>(.int .i64 n:Value))).toArray
def Looks (w:World)(m:Value)(p X:Int):Prop:=∀ Z:Int,0≤Z→Z≤7→(Instr.lookup 138 m (.int .i64 Z) false).run Tryz.prog w=.ok (QNc (QDo p X Z)) w
theorem QUo {w:World} {M:Nat}(h:w.heap[M]? = some (.map #[⟨.int .i64 0,.agg #[.int .i64 0,.int .i64 0,.int .i64 1,.int .i64 1,.int .i64 1,.int .i64 1,.int .i64 1,.int .i64 1],0⟩,⟨.int .i64 1,.agg #[.int .i64 2,.int .i64 0,.int .i64 2,.int .i64 0,.int .i64 2,.int .i64 0,.int .i64 2,.int .i64 0],1⟩,⟨.int .i64 2,.agg #[.int .i64 0,.int .i64 0,.int .i64 0,.int .i64 0,.int .i64 2,.int .i64 2,.int .i64 2,.int .i64 2],2⟩,⟨.int .i64 6,.agg #[.int .i64 1,.int .i64 1,.int .i64 1,.int .i64 1,.int .i64 1,.int .i64 1,.int .i64 1,.int .i64 1],3⟩] 4))(Z:Int)(h0:0≤Z)(h1:Z≤7):(Instr.lookup 138 (.map (some M)) (.int .i64 Z) false).run Tryz.prog w=.ok (QNc (QVe Z)) w:=by
 obtain rfl|rfl|rfl|rfl|rfl|rfl|rfl|rfl:Z=0∨Z=1∨Z=2∨Z=3∨Z=4∨Z=5∨Z=6∨Z=7:=by omega
 · exact XU Tryz.underlying138 Tryz.underlying3 h rfl
 · exact XU Tryz.underlying138 Tryz.underlying3 h rfl
 · exact XU Tryz.underlying138 Tryz.underlying3 h rfl
 · exact Ju Tryz.underlying138 Tryz.underlying3 h rfl (by kernel_rfl)
 · exact Ju Tryz.underlying138 Tryz.underlying3 h rfl (by kernel_rfl)
 · exact Ju Tryz.underlying138 Tryz.underlying3 h rfl (by kernel_rfl)
 · exact XU Tryz.underlying138 Tryz.underlying3 h rfl
 · exact Ju Tryz.underlying138 Tryz.underlying3 h rfl (by kernel_rfl)
theorem QU6 {w:World} {M:Nat}(h:w.heap[M]? = some (.map #[⟨.int .i64 2,.agg #[.int .i64 2,.int .i64 2,.int .i64 2,.int .i64 2,.int .i64 2,.int .i64 2,.int .i64 2,.int .i64 2],0⟩,⟨.int .i64 3,.agg #[.int .i64 2,.int .i64 0,.int .i64 1,.int .i64 1,.int .i64 0,.int .i64 0,.int .i64 0,.int .i64 0],1⟩,⟨.int .i64 4,.agg #[.int .i64 2,.int .i64 2,.int .i64 2,.int .i64 2,.int .i64 2,.int .i64 2,.int .i64 2,.int .i64 2],2⟩,⟨.int .i64 5,.agg #[.int .i64 0,.int .i64 2,.int .i64 0,.int .i64 0,.int .i64 0,.int .i64 0,.int .i64 0,.int .i64 0],3⟩,⟨.int .i64 6,.agg #[.int .i64 1,.int .i64 1,.int .i64 1,.int .i64 1,.int .i64 1,.int .i64 1,.int .i64 1,.int .i64 1],4⟩] 5))(Z:Int)(h0:0≤Z)(h1:Z≤7):(Instr.lookup 138 (.map (some M)) (.int .i64 Z) false).run Tryz.prog w=.ok (QNc (QVM Z)) w:=by
 obtain rfl|rfl|rfl|rfl|rfl|rfl|rfl|rfl:Z=0∨Z=1∨Z=2∨Z=3∨Z=4∨Z=5∨Z=6∨Z=7:=by omega
 · exact Ju Tryz.underlying138 Tryz.underlying3 h rfl (by kernel_rfl)
 · exact Ju Tryz.underlying138 Tryz.underlying3 h rfl (by kernel_rfl)
 · exact XU Tryz.underlying138 Tryz.underlying3 h rfl
 · exact XU Tryz.underlying138 Tryz.underlying3 h rfl
 · exact XU Tryz.underlying138 Tryz.underlying3 h rfl
 · exact XU Tryz.underlying138 Tryz.underlying3 h rfl
 · exact XU Tryz.underlying138 Tryz.underlying3 h rfl
 · exact Ju Tryz.underlying138 Tryz.underlying3 h rfl (by kernel_rfl)
theorem QVI {w:World} {M:Nat}(h:w.heap[M]? = some (.map #[⟨.int .i64 3,.agg #[.int .i64 2,.int .i64 2,.int .i64 2,.int .i64 2,.int .i64 2,.int .i64 2,.int .i64 2,.int .i64 2],0⟩] 1))(Z:Int)(h0:0≤Z)(h1:Z≤7):(Instr.lookup 138 (.map (some M)) (.int .i64 Z) false).run Tryz.prog w=.ok (QNc (QVr Z)) w:=by
 obtain rfl|rfl|rfl|rfl|rfl|rfl|rfl|rfl:Z=0∨Z=1∨Z=2∨Z=3∨Z=4∨Z=5∨Z=6∨Z=7:=by omega
 · exact Ju Tryz.underlying138 Tryz.underlying3 h rfl (by kernel_rfl)
 · exact Ju Tryz.underlying138 Tryz.underlying3 h rfl (by kernel_rfl)
 · exact Ju Tryz.underlying138 Tryz.underlying3 h rfl (by kernel_rfl)
 · exact XU Tryz.underlying138 Tryz.underlying3 h rfl
 · exact Ju Tryz.underlying138 Tryz.underlying3 h rfl (by kernel_rfl)
 · exact Ju Tryz.underlying138 Tryz.underlying3 h rfl (by kernel_rfl)
 · exact Ju Tryz.underlying138 Tryz.underlying3 h rfl (by kernel_rfl)
 · exact Ju Tryz.underlying138 Tryz.underlying3 h rfl (by kernel_rfl)
theorem QQL {w:World}(Z:Int):(Instr.lookup 138 (.map none) (.int .i64 Z) false).run Tryz.prog w=.ok (QNc [0,0,0,0,0,0,0,0]) w :=
 QFe Tryz.underlying138 Tryz.underlying3 (by kernel_rfl)
theorem QEu (w:World)(o:Obj):(w.alloc o).heap[w.heap.size]? = some o:=by
 show (w.heap.push _)[w.heap.size]? = _
 simp
theorem QRj (w:World) :
 Calls Tryz.prog 104 #[.int .i64 0,.int .i64 0] w fun e w'=>∃ m,e=.returned m∧Looks w' m 0 0∧Below w.heap.size w w':=by
 have hmm:=@run_makeMap Tryz.prog
 go_enter Tryz.func104,Tryz.ntmps104
 go_wp2
 go_ret
 exact⟨_,rfl,fun Z h0 h1=>QUo (QEu _ _) Z h0 h1,(by repeat (first|exact Below.refl _ _|assumption|refine JF ?_ (by assumption)|refine Below.drew ?_|refine Below.alloc ?_ (by first|(simp;done)|(simp;omega)|omega) _|refine Below.setCell ?_ (by first|(simp;done)|(simp;omega)|omega) _))⟩
theorem QSE (w:World) :
 Calls Tryz.prog 104 #[.int .i64 0,.int .i64 3] w fun e w'=>∃ m,e=.returned m∧Looks w' m 0 3∧Below w.heap.size w w':=by
 have hmm:=@run_makeMap Tryz.prog
 go_enter Tryz.func104,Tryz.ntmps104
 go_wp2
 go_ret
 exact⟨_,rfl,fun Z h0 h1=>QU6 (QEu _ _) Z h0 h1,(by repeat (first|exact Below.refl _ _|assumption|refine JF ?_ (by assumption)|refine Below.drew ?_|refine Below.alloc ?_ (by first|(simp;done)|(simp;omega)|omega) _|refine Below.setCell ?_ (by first|(simp;done)|(simp;omega)|omega) _))⟩
theorem QR7 (w:World) :
 Calls Tryz.prog 104 #[.int .i64 2,.int .i64 1] w fun e w'=>∃ m,e=.returned m∧Looks w' m 2 1∧Below w.heap.size w w':=by
 have hmm:=@run_makeMap Tryz.prog
 go_enter Tryz.func104,Tryz.ntmps104
 go_wp2
 go_ret
 exact⟨_,rfl,fun Z h0 h1=>QVI (QEu _ _) Z h0 h1,(by repeat (first|exact Below.refl _ _|assumption|refine JF ?_ (by assumption)|refine Below.drew ?_|refine Below.alloc ?_ (by first|(simp;done)|(simp;omega)|omega) _|refine Below.setCell ?_ (by first|(simp;done)|(simp;omega)|omega) _))⟩
theorem QIz (p X Z:Int)(h:¬(p=0∧X=0)∧¬(p=0∧X=3)∧¬(p=2∧X=1)):QDo p X Z=[0,0,0,0,0,0,0,0]:=by
 unfold QDo
 rw[if_neg h.1,if_neg h.2.1,if_neg h.2.2]
theorem QNB (p X:Int)(hX:0≤X∧X≤3)(w:World) :
 Calls Tryz.prog 104 #[.int .i64 p,.int .i64 X] w fun e w'=>∃ m,e=.returned m∧Looks w' m p X∧Below w.heap.size w w':=by
 by_cases hA:p=0∧X=0
 · obtain⟨rfl,rfl⟩:=hA
   exact QRj w
 by_cases hB:p=0∧X=3
 · obtain⟨rfl,rfl⟩:=hB
   exact QSE w
 by_cases hC:p=2∧X=1
 · obtain⟨rfl,rfl⟩:=hC
   exact QR7 w
 have hn:=Lib.hid (fun Z=>QIz p X Z ⟨hA,hB,hC⟩)
 cases e0:(p==0)<;>cases e2:(p==2)<;>cases x0:(X==0)<;>cases x3:(X==3)<;>cases x1:(X==1)
 all_goals first
  | (exfalso;simp only[beq_iff_eq,beq_eq_false_iff_ne] at e0 e2 x0 x3 x1;omega)
  | (clear hA hB hC
     go_enter Tryz.func104,Tryz.ntmps104
     go_wp2
     go_ret
     exact⟨_,rfl,fun Z h0 h1=>by rw[hn.out];exact QQL Z,(by repeat (first|exact Below.refl _ _|assumption|refine JF ?_ (by assumption)|refine Below.drew ?_|refine Below.alloc ?_ (by first|(simp;done)|(simp;omega)|omega) _|refine Below.setCell ?_ (by first|(simp;done)|(simp;omega)|omega) _))⟩)
theorem QIu:∀ c:Fin 256,(QDo 0 (fx (c.val:Int)) (fz (c.val:Int))).getD (fy (c.val:Int)).toNat 0=QBo (c.val:Int):=by decide +kernel
theorem QQI:∀ c:Fin 256,(QDo 2 (fx (c.val:Int)) (fz (c.val:Int))).getD (fy (c.val:Int)).toNat 0=QEQ (c.val:Int):=by decide +kernel
theorem QI9 (p X Z:Int):(QDo p X Z).length=8:=by
 unfold QDo QVe QVM QVr
 repeat' split
 all_goals rfl
theorem QKm (n:Nat):([0,0,0,0,0,0,0,0]:List Int).getD n 0=0:=by
 match n with
 | 0|1|2|3|4|5|6|7=>rfl
 | n+8=>rfl
def QAS (p:Int):Int:=if p=3∨p=4 then 0 else p
theorem QOa (p c:Int)(hc:B8 c):(QDo (QAS p) (fx c) (fz c)).getD (fy c).toNat 0=Jb p c:=by
 unfold Jb QAS
 by_cases h:p=3∨p=4
 · rw[if_pos h,if_pos (by omega)]
   exact Ji (P:=fun c=>(QDo 0 (fx c) (fz c)).getD (fy c).toNat 0=QBo c) QIu c hc.1 hc.2
 · rw[if_neg h]
   by_cases h0:p=0
   · subst h0
     rw[if_pos (by omega)]
     exact Ji (P:=fun c=>(QDo 0 (fx c) (fz c)).getD (fy c).toNat 0=QBo c) QIu c hc.1 hc.2
   · rw[if_neg (by omega)]
     by_cases h2:p=2
     · subst h2
       rw[if_pos rfl]
       exact Ji (P:=fun c=>(QDo 2 (fx c) (fz c)).getD (fy c).toNat 0=QEQ c) QQI c hc.1 hc.2
     · rw[if_neg h2,QIz _ _ _ ⟨by omega,by omega,by omega⟩,QKm]
theorem QSf (l:List Int)(hl:l.length=8)(y:Int)(hy:0≤y∧y≤7)(w:World):(Instr.index 137 (QNc l) (.int .i64 y)).run Tryz.prog w=.ok (.int .i64 (l.getD y.toNat 0)) w :=
 QFq Tryz.underlying137 (by kernel_rfl) (by kernel_rfl) (by omega) (by
  have h:y.toNat < l.length:=by omega
  simp[h])
theorem Xa (p c:Int)(hc:B8 c)(w:World) :
 Calls Tryz.prog 80 #[.int .i64 p,.int .u8 c] w fun e w'=>e=.returned (.int .i64 (Jb p c))∧Below w.heap.size w w':=by
 have bx:=QKN c hc
 have bY:=QKI c hc
 have bz:=QK0 c hc
 have hf:=Lib.hid (zb c hc)
 have hr:=Lib.hid (QOa p c hc)
 have hix:=fun w=>QSf (QDo (QAS p) (fx c) (fz c)) (QI9 _ _ _) (fy c) bY w
 have hs:=Lib.hid (QNB (QAS p) (fx c) bx)
 by_cases h3:p=3
 · subst h3
   rw[show QAS 3=0 from rfl] at hs hr hix
   go_enter Tryz.func80,Tryz.ntmps80
   go_wp2_with (first
    | (go_at_call 61;refine (hf.out _).mono ?_;rintro e w' ⟨rfl,rfl⟩)
    | (go_at_call 104;refine (hs.out _).mono ?_;rintro e w' ⟨m,rfl,hl,hb⟩;have hl:=hl (fz c) bz.1 bz.2))
   go_ret
   exact⟨Jy hr.out,(by repeat (first|exact Below.refl _ _|assumption|refine JF ?_ (by assumption)|refine Below.drew ?_|refine Below.alloc ?_ (by first|(simp;done)|(simp;omega)|omega) _|refine Below.setCell ?_ (by first|(simp;done)|(simp;omega)|omega) _))⟩
 by_cases h4:p=4
 · subst h4
   rw[show QAS 4=0 from rfl] at hs hr hix
   go_enter Tryz.func80,Tryz.ntmps80
   go_wp2_with (first
    | (go_at_call 61;refine (hf.out _).mono ?_;rintro e w' ⟨rfl,rfl⟩)
    | (go_at_call 104;refine (hs.out _).mono ?_;rintro e w' ⟨m,rfl,hl,hb⟩;have hl:=hl (fz c) bz.1 bz.2))
   go_ret
   exact⟨Jy hr.out,(by repeat (first|exact Below.refl _ _|assumption|refine JF ?_ (by assumption)|refine Below.drew ?_|refine Below.alloc ?_ (by first|(simp;done)|(simp;omega)|omega) _|refine Below.setCell ?_ (by first|(simp;done)|(simp;omega)|omega) _))⟩
 · rw[show QAS p=p by unfold QAS;rw[if_neg (by omega)]] at hs hr hix
   have e3:(p==3)=false:=by simpa using h3
   have e4:(p==4)=false:=by simpa using h4
   clear h3 h4
   go_enter Tryz.func80,Tryz.ntmps80
   go_wp2_with (first
    | (go_at_call 61;refine (hf.out _).mono ?_;rintro e w' ⟨rfl,rfl⟩)
    | (go_at_call 104;refine (hs.out _).mono ?_;rintro e w' ⟨m,rfl,hl,hb⟩;have hl:=hl (fz c) bz.1 bz.2))
   go_ret
   exact⟨Jy hr.out,(by repeat (first|exact Below.refl _ _|assumption|refine JF ?_ (by assumption)|refine Below.drew ?_|refine Below.alloc ?_ (by first|(simp;done)|(simp;omega)|omega) _|refine Below.setCell ?_ (by first|(simp;done)|(simp;omega)|omega) _))⟩
end
abbrev nmV (pl c d m le sk:Int):Value:=.agg #[.int .i64 pl,.int .u8 c,.int .u8 d,.int .u16 m,.int .i64 le,.int .i64 sk]
abbrev ZB (pl c d m le sk:Int):Value:=.func (.func 94) #[nmV pl c d m le sk] #[]
abbrev ZC (pl c d m le sk:Int):Value:=.func (.func 95) #[nmV pl c d m le sk] #[]
def QT1:List (List Nat):=QL++QX++Xw
theorem sayB (pl d m:Int)(l:List Nat)(h:∀ k∈l,k < 256):say pl d m l=l.map UInt8.ofNat:=by
 induction l with
 | nil=>rfl
 | cons k l ih =>
   have hk:=h k (by simp)
   rw[QAV,ih (fun x hx=>h x (by simp[hx]))]
   unfold tok
   rw[if_neg (by omega),if_neg (by omega),if_neg (by omega),if_neg (by omega)]
   rfl
def sy (pl d m:Int)(l:List Nat):ByteArray:=⟨(say pl d m l).toArray⟩
theorem QHX (pl d m:Int)(a b:List Nat):sy pl d m a++sy pl d m b=sy pl d m (a++b):=by
 unfold sy
 rw[Xu,QLy]
theorem Zk (pl d m:Int)(l:List Nat)(h:∀ k∈l,k < 256):sb l=sy pl d m l:=by
 unfold sb sy
 rw[sayB pl d m l h]
theorem qr (pl c d m le sk:Int)(s:ByteArray)(w:World) :
 Calls Tryz.prog 95 #[nmV pl c d m le sk,.string s] w fun e w'=>e=.returned (.string s)∧Below w.heap.size w w':=by
 go_enter Tryz.func95,Tryz.ntmps95
 go_wp2
 go_ret
 exact⟨rfl,(by repeat (first|exact Below.refl _ _|assumption|refine JF ?_ (by assumption)|refine Below.drew ?_|refine Below.alloc ?_ (by first|(simp;done)|(simp;omega)|omega) _|refine Below.setCell ?_ (by first|(simp;done)|(simp;omega)|omega) _))⟩
theorem QU7 (p:Int):ixC p < 256:=by unfold ixC;split<;>omega
theorem QLY (p d m:Int):(⟨[105,UInt8.ofNat (ixC p)].toArray⟩:ByteArray)=sy p d m (ixT p):=by
 unfold sy
 rw[sayB p d m (ixT p) (by unfold ixT;have:=QU7 p;simp;omega)]
 rfl
theorem QEN (p d m:Int):(⟨(QBQ p d).toArray⟩:ByteArray)=sy p d m [259]:=by
 unfold sy
 rw[QAV,QG5,List.append_nil]
 rfl
theorem zF (pl c d m le sk:Int)(hp:pl=3∨pl=4)(hc:B8 c)(hd:B8 d)(t:List Nat)(ht:t∈QT1)(w:World)(h:TextTabs w) :
 Calls Tryz.prog 94 #[nmV pl c d m le sk,.string (sb t)] w fun e w'=>e=.returned (.string (sy pl d m (XC pl (JP pl c) t)))∧Below w.heap.size w w':=by
 have k1:=Lib.hid (fun w=>QEf pl w)
 have k2:=Lib.hid (fun o=>QEv pl d hd (w.alloc o) (h.below ((Below.refl _ w).alloc (Nat.le_refl _) o)))
 have k3:=Lib.hid (fun w=>Zy pl c hc w)
 have e1:=QLY pl d m
 have e2:=QEN pl d m
 have e3:∀ l,XC pl (JP pl c) l=if l=[104,108] then ixT pl else if l=[40,104,108,41] then [259] else if l=[104]∨l=[108] then (if JP pl c then l else ixT pl++l) else l:=fun l=>by unfold XC;rw[if_pos hp]
 have e4:(sy pl d m (ixT pl)).size=2:=by rw[←e1];rfl
 rw[e3]
 clear e3 hp h
 generalize JP pl c=N at *
 simp only[QT1,QL,QX,Xw,List.cons_append,List.nil_append,List.mem_cons,List.not_mem_nil,or_false] at ht
 rcases ht with rfl|rfl|rfl|rfl|rfl|rfl|rfl|rfl|rfl|rfl|rfl|rfl|rfl|rfl|rfl|rfl
 all_goals
  simp only[sb,List.map_cons,List.map_nil]
  cases N
  all_goals
   go_enter Tryz.func94,Tryz.ntmps94
   go_wp2_with (first
    | (go_at_call 116;refine (k1.out _).mono ?_;rintro e w' ⟨rfl,rfl⟩)
    | (go_at_call 117;refine (k2.out _).mono ?_;rintro e w' ⟨rfl,hb⟩;have hsz:=hb.size)
    | (go_at_call 78;refine (k3.out _).mono ?_;rintro e w' ⟨rfl,rfl⟩))
 all_goals
  go_ret
  refine⟨Qa ?_,(by repeat (first|exact Below.refl _ _|assumption|refine JF ?_ (by assumption)|refine Below.drew ?_|refine Below.alloc ?_ (by first|(simp;done)|(simp;omega)|omega) _|refine Below.setCell ?_ (by first|(simp;done)|(simp;omega)|omega) _))⟩
  (first
    | rfl
    | exact e1
    | exact e2
    | (rw[show (⟨#[104]⟩:ByteArray)=sy pl d m [104] from rfl,←QHX];(try rw[←e1]))
    | (rw[show (⟨#[108]⟩:ByteArray)=sy pl d m [108] from rfl,←QHX];(try rw[←e1])))
abbrev shV (pl c d m le sk x y z p q:Int)(f:Value):Value:=.agg #[.int .i64 pl,.int .u8 c,.int .u8 d,.int .u16 m,.int .i64 le,.int .i64 sk,.int .i64 x,.int .i64 y,.int .i64 z,.int .i64 p,.int .i64 q,f]
theorem TextTabs.al {w:World}(h:TextTabs w)(o:Obj):TextTabs (w.alloc o):=h.below ((Below.refl _ w).alloc (Nat.le_refl _) o)
theorem QBj {l:List (List Nat)} {n:Int}(h0:0≤n)(h1:n < l.length):pick l n∈l:=by
 unfold pick
 have:n.toNat < l.length:=by omega
 rw[List.getD_eq_getElem?_getD,List.getElem?_eq_getElem this]
 exact List.getElem_mem this
theorem QDQ {w w':World} {p q r:Addr} {u v x:Value}(k:Below w.heap.size w w')(h:w.cell? p=some u∧w.cell? q=some v∧w.cell? r=some x):w'.cell? p=some u∧w'.cell? q=some v∧w'.cell? r=some x :=
 ⟨cell_kept h.1 k,cell_kept h.2.1 k,cell_kept h.2.2 k⟩
theorem QDM (w:World)(pl c d m le sk x y z p q:Int)(f:Value)(t:TypeId)(i j:Nat)(hi:i < 12)(hj:j < 12){r:Addr} {v:Value}(h:(w.alloc (.cells #[.int .i64 pl,.int .u8 c,.int .u8 d,.int .u16 m,.int .i64 le,.int .i64 sk,.int .i64 x,.int .i64 y,.int .i64 z,.int .i64 p,.int .i64 q,f] t)).cell? r=some v) :
 (w.alloc (.cells #[.int .i64 pl,.int .u8 c,.int .u8 d,.int .u16 m,.int .i64 le,.int .i64 sk,.int .i64 x,.int .i64 y,.int .i64 z,.int .i64 p,.int .i64 q,f] t)).cell? ⟨w.heap.size,i,none⟩=some ([.int .i64 pl,.int .u8 c,.int .u8 d,.int .u16 m,.int .i64 le,.int .i64 sk,.int .i64 x,.int .i64 y,.int .i64 z,.int .i64 p,.int .i64 q,f].getD i undef) ∧
 (w.alloc (.cells #[.int .i64 pl,.int .u8 c,.int .u8 d,.int .u16 m,.int .i64 le,.int .i64 sk,.int .i64 x,.int .i64 y,.int .i64 z,.int .i64 p,.int .i64 q,f] t)).cell? ⟨w.heap.size,j,none⟩=some ([.int .i64 pl,.int .u8 c,.int .u8 d,.int .u16 m,.int .i64 le,.int .i64 sk,.int .i64 x,.int .i64 y,.int .i64 z,.int .i64 p,.int .i64 q,f].getD j undef) ∧
 (w.alloc (.cells #[.int .i64 pl,.int .u8 c,.int .u8 d,.int .u16 m,.int .i64 le,.int .i64 sk,.int .i64 x,.int .i64 y,.int .i64 z,.int .i64 p,.int .i64 q,f] t)).cell? r=some v:=by
 have e:∀ k,k < 12→(w.alloc (.cells #[.int .i64 pl,.int .u8 c,.int .u8 d,.int .u16 m,.int .i64 le,.int .i64 sk,.int .i64 x,.int .i64 y,.int .i64 z,.int .i64 p,.int .i64 q,f] t)).cell? ⟨w.heap.size,k,none⟩=some ([.int .i64 pl,.int .u8 c,.int .u8 d,.int .u16 m,.int .i64 le,.int .i64 sk,.int .i64 x,.int .i64 y,.int .i64 z,.int .i64 p,.int .i64 q,f].getD k undef):=by
  intro k hk
  have e2:∀ o:Obj,(w.alloc o).heap[w.heap.size]? = some o:=fun o=>by
   show (w.heap.push _)[w.heap.size]? = _
   simp
  simp only[World.cell?,e2]
  simp[hk]
 exact⟨e i hi,e j hj,h⟩
theorem QRx (pl c d m le sk x y z p q:Int)(hp:pl=3∨pl=4)(hc:B8 c)(hd:B8 d)(hi:0≤y∧y≤7)(w:World)(h:TextTabs w) :
 Calls Tryz.prog 96 #[shV pl c d m le sk x y z p q (ZB pl c d m le sk),.string ⟨#[82]⟩] w fun e w'=>e=.returned (.string (sy pl d m (XC pl (JP pl c) (pick QL y))))∧Below w.heap.size w w':=by
 have kn:=Lib.hid (fun W (hW:Below w.heap.size w W)=>zF pl c d m le sk hp hc hd (pick QL y) (List.mem_append_left _<|List.mem_append_left _<|(QBj hi.1 (by simp[QL];omega))) W (h.below hW))
 have i0:=hi.1
 have i1:y < 8:=by omega
 clear hi
 have t1:=fun o=>JI w o (h.regs.of QGc y i0 (by simp[QL];omega))
 generalize sy pl d m (XC pl (JP pl c) (pick QL y))=R at *
 clear hp hc hd
 clear h
 go_enter Tryz.func96,Tryz.ntmps96
 go_wp2_with fail
 have hs:=QDM w pl c d m le sk x y z p q (ZB pl c d m le sk) 104 11 7 (by omega) (by omega) (t1 _)
 simp only[List.getD_cons_zero,List.getD_cons_succ] at hs
 go_region_held3 (fun w'=>w'.cell? ⟨w.heap.size,11,none⟩=some (ZB pl c d m le sk)∧w'.cell? ⟨w.heap.size,7,none⟩=some (.int .i64 y)∧w'.cell? ⟨3,y.toNat,none⟩=some (.string (sb (pick QL y)))) (first|go_keep|exact QDQ hb (by assumption))
  (first
  | (go_at_call 94;refine (kn.out _ ((by repeat (first|exact Below.refl _ _|assumption|refine JF ?_ (by assumption)|refine Below.drew ?_|refine Below.alloc ?_ (by first|(simp;done)|(simp;omega)|omega) _|refine Below.setCell ?_ (by first|(simp;done)|(simp;omega)|omega) _)))).mono ?_;rintro e w' ⟨rfl,hb⟩;have hsz:=hb.size))
 go_wp2
 go_ret
 exact⟨rfl,(by repeat (first|exact Below.refl _ _|assumption|refine JF ?_ (by assumption)|refine Below.drew ?_|refine Below.alloc ?_ (by first|(simp;done)|(simp;omega)|omega) _|refine Below.setCell ?_ (by first|(simp;done)|(simp;omega)|omega) _))⟩
theorem QS8 (pl c d m le sk x y z p q:Int)(hp:pl=3∨pl=4)(hc:B8 c)(hd:B8 d)(hi:0≤z∧z≤7)(w:World)(h:TextTabs w) :
 Calls Tryz.prog 96 #[shV pl c d m le sk x y z p q (ZB pl c d m le sk),.string ⟨#[83]⟩] w fun e w'=>e=.returned (.string (sy pl d m (XC pl (JP pl c) (pick QL z))))∧Below w.heap.size w w':=by
 have kn:=Lib.hid (fun W (hW:Below w.heap.size w W)=>zF pl c d m le sk hp hc hd (pick QL z) (List.mem_append_left _<|List.mem_append_left _<|(QBj hi.1 (by simp[QL];omega))) W (h.below hW))
 have i0:=hi.1
 have i1:z < 8:=by omega
 clear hi
 have t1:=fun o=>JI w o (h.regs.of QGc z i0 (by simp[QL];omega))
 generalize sy pl d m (XC pl (JP pl c) (pick QL z))=R at *
 clear hp hc hd
 clear h
 go_enter Tryz.func96,Tryz.ntmps96
 go_wp2_with fail
 have hs:=QDM w pl c d m le sk x y z p q (ZB pl c d m le sk) 104 11 8 (by omega) (by omega) (t1 _)
 simp only[List.getD_cons_zero,List.getD_cons_succ] at hs
 go_region_held3 (fun w'=>w'.cell? ⟨w.heap.size,11,none⟩=some (ZB pl c d m le sk)∧w'.cell? ⟨w.heap.size,8,none⟩=some (.int .i64 z)∧w'.cell? ⟨3,z.toNat,none⟩=some (.string (sb (pick QL z)))) (first|go_keep|exact QDQ hb (by assumption))
  (first
  | (go_at_call 94;refine (kn.out _ ((by repeat (first|exact Below.refl _ _|assumption|refine JF ?_ (by assumption)|refine Below.drew ?_|refine Below.alloc ?_ (by first|(simp;done)|(simp;omega)|omega) _|refine Below.setCell ?_ (by first|(simp;done)|(simp;omega)|omega) _)))).mono ?_;rintro e w' ⟨rfl,hb⟩;have hsz:=hb.size))
 go_wp2
 go_ret
 exact⟨rfl,(by repeat (first|exact Below.refl _ _|assumption|refine JF ?_ (by assumption)|refine Below.drew ?_|refine Below.alloc ?_ (by first|(simp;done)|(simp;omega)|omega) _|refine Below.setCell ?_ (by first|(simp;done)|(simp;omega)|omega) _))⟩
theorem QRc (pl c d m le sk x y z p q:Int)(hp:pl=3∨pl=4)(hc:B8 c)(hd:B8 d)(hi:0≤p∧p≤3)(w:World)(h:TextTabs w) :
 Calls Tryz.prog 96 #[shV pl c d m le sk x y z p q (ZB pl c d m le sk),.string ⟨#[80]⟩] w fun e w'=>e=.returned (.string (sy pl d m (XC pl (JP pl c) (pick QX p))))∧Below w.heap.size w w':=by
 have kn:=Lib.hid (fun W (hW:Below w.heap.size w W)=>zF pl c d m le sk hp hc hd (pick QX p) (List.mem_append_left _<|List.mem_append_right _<|(QBj hi.1 (by simp[QX];omega))) W (h.below hW))
 have i0:=hi.1
 have i1:p < 4:=by omega
 clear hi
 have t1:=fun o=>JI w o (h.pairs.of QLU p i0 (by simp[QX];omega))
 generalize sy pl d m (XC pl (JP pl c) (pick QX p))=R at *
 clear hp hc hd
 clear h
 go_enter Tryz.func96,Tryz.ntmps96
 go_wp2_with fail
 have hs:=QDM w pl c d m le sk x y z p q (ZB pl c d m le sk) 104 11 9 (by omega) (by omega) (t1 _)
 simp only[List.getD_cons_zero,List.getD_cons_succ] at hs
 go_region_held3 (fun w'=>w'.cell? ⟨w.heap.size,11,none⟩=some (ZB pl c d m le sk)∧w'.cell? ⟨w.heap.size,9,none⟩=some (.int .i64 p)∧w'.cell? ⟨4,p.toNat,none⟩=some (.string (sb (pick QX p)))) (first|go_keep|exact QDQ hb (by assumption))
  (first
  | (go_at_call 94;refine (kn.out _ ((by repeat (first|exact Below.refl _ _|assumption|refine JF ?_ (by assumption)|refine Below.drew ?_|refine Below.alloc ?_ (by first|(simp;done)|(simp;omega)|omega) _|refine Below.setCell ?_ (by first|(simp;done)|(simp;omega)|omega) _)))).mono ?_;rintro e w' ⟨rfl,hb⟩;have hsz:=hb.size))
 go_wp2
 go_ret
 exact⟨rfl,(by repeat (first|exact Below.refl _ _|assumption|refine JF ?_ (by assumption)|refine Below.drew ?_|refine Below.alloc ?_ (by first|(simp;done)|(simp;omega)|omega) _|refine Below.setCell ?_ (by first|(simp;done)|(simp;omega)|omega) _))⟩
theorem QTV (pl c d m le sk x y z p q:Int)(hp:pl=3∨pl=4)(hc:B8 c)(hd:B8 d)(hi:0≤p∧p≤3)(w:World)(h:TextTabs w) :
 Calls Tryz.prog 96 #[shV pl c d m le sk x y z p q (ZB pl c d m le sk),.string ⟨#[81]⟩] w fun e w'=>e=.returned (.string (sy pl d m (XC pl (JP pl c) (pick Xw p))))∧Below w.heap.size w w':=by
 have kn:=Lib.hid (fun W (hW:Below w.heap.size w W)=>zF pl c d m le sk hp hc hd (pick Xw p) (List.mem_append_right _<|(QBj hi.1 (by simp[Xw];omega))) W (h.below hW))
 have i0:=hi.1
 have i1:p < 4:=by omega
 clear hi
 have t1:=fun o=>JI w o (h.stacked.of QGE p i0 (by simp[Xw];omega))
 generalize sy pl d m (XC pl (JP pl c) (pick Xw p))=R at *
 clear hp hc hd
 clear h
 go_enter Tryz.func96,Tryz.ntmps96
 go_wp2_with fail
 have hs:=QDM w pl c d m le sk x y z p q (ZB pl c d m le sk) 104 11 9 (by omega) (by omega) (t1 _)
 simp only[List.getD_cons_zero,List.getD_cons_succ] at hs
 go_region_held3 (fun w'=>w'.cell? ⟨w.heap.size,11,none⟩=some (ZB pl c d m le sk)∧w'.cell? ⟨w.heap.size,9,none⟩=some (.int .i64 p)∧w'.cell? ⟨5,p.toNat,none⟩=some (.string (sb (pick Xw p)))) (first|go_keep|exact QDQ hb (by assumption))
  (first
  | (go_at_call 94;refine (kn.out _ ((by repeat (first|exact Below.refl _ _|assumption|refine JF ?_ (by assumption)|refine Below.drew ?_|refine Below.alloc ?_ (by first|(simp;done)|(simp;omega)|omega) _|refine Below.setCell ?_ (by first|(simp;done)|(simp;omega)|omega) _)))).mono ?_;rintro e w' ⟨rfl,hb⟩;have hsz:=hb.size))
 go_wp2
 go_ret
 exact⟨rfl,(by repeat (first|exact Below.refl _ _|assumption|refine JF ?_ (by assumption)|refine Below.drew ?_|refine Below.alloc ?_ (by first|(simp;done)|(simp;omega)|omega) _|refine Below.setCell ?_ (by first|(simp;done)|(simp;omega)|omega) _))⟩
theorem QSU (pl c d m le sk x y z p q:Int)(hp:pl=3∨pl=4)(hc:B8 c)(hd:B8 d)(w:World)(h:TextTabs w) :
 Calls Tryz.prog 96 #[shV pl c d m le sk x y z p q (ZB pl c d m le sk),.string ⟨#[72]⟩] w fun e w'=>e=.returned (.string (sy pl d m (XC pl (JP pl c) [104,108])))∧Below w.heap.size w w':=by
 have kn:=Lib.hid (fun W (hW:Below w.heap.size w W)=>zF pl c d m le sk hp hc hd [104,108] (by decide) W (h.below hW))
 generalize sy pl d m (XC pl (JP pl c) [104,108])=R at *
 clear hp hc hd
 have kn:=Lib.hid (show ∀ W (hW:Below w.heap.size w W),Calls Tryz.prog 94 #[nmV pl c d m le sk,.string ⟨#[104,108]⟩] W fun e w'=>e=.returned (.string R)∧Below W.heap.size W w' from kn.out)
 clear h
 go_enter Tryz.func96,Tryz.ntmps96
 go_wp2_with (first
  | (go_at_call 94;refine (kn.out _ ((by repeat (first|exact Below.refl _ _|assumption|refine JF ?_ (by assumption)|refine Below.drew ?_|refine Below.alloc ?_ (by first|(simp;done)|(simp;omega)|omega) _|refine Below.setCell ?_ (by first|(simp;done)|(simp;omega)|omega) _)))).mono ?_;rintro e w' ⟨rfl,hb⟩;have hsz:=hb.size))
 go_ret
 exact⟨rfl,(by repeat (first|exact Below.refl _ _|assumption|refine JF ?_ (by assumption)|refine Below.drew ?_|refine Below.alloc ?_ (by first|(simp;done)|(simp;omega)|omega) _|refine Below.setCell ?_ (by first|(simp;done)|(simp;omega)|omega) _))⟩
theorem QTs (pl c d m le sk x y z p q:Int)  (hi:0≤y∧y≤7)(w:World)(h:TextTabs w) :
 Calls Tryz.prog 96 #[shV pl c d m le sk x y z p q (ZC pl c d m le sk),.string ⟨#[82]⟩] w fun e w'=>e=.returned (.string (sb (pick QL y)))∧Below w.heap.size w w':=by
 have kn:=Lib.hid (fun W (hW:Below w.heap.size w W)=>qr pl c d m le sk (sb (pick QL y)) W)
 have i0:=hi.1
 have i1:y < 8:=by omega
 clear hi
 have t1:=fun o=>JI w o (h.regs.of QGc y i0 (by simp[QL];omega))
 clear h
 go_enter Tryz.func96,Tryz.ntmps96
 go_wp2_with fail
 have hs:=QDM w pl c d m le sk x y z p q (ZC pl c d m le sk) 104 11 7 (by omega) (by omega) (t1 _)
 simp only[List.getD_cons_zero,List.getD_cons_succ] at hs
 go_region_held3 (fun w'=>w'.cell? ⟨w.heap.size,11,none⟩=some (ZC pl c d m le sk)∧w'.cell? ⟨w.heap.size,7,none⟩=some (.int .i64 y)∧w'.cell? ⟨3,y.toNat,none⟩=some (.string (sb (pick QL y)))) (first|go_keep|exact QDQ hb (by assumption))
  (first
  | (go_at_call 95;refine (kn.out _ ((by repeat (first|exact Below.refl _ _|assumption|refine JF ?_ (by assumption)|refine Below.drew ?_|refine Below.alloc ?_ (by first|(simp;done)|(simp;omega)|omega) _|refine Below.setCell ?_ (by first|(simp;done)|(simp;omega)|omega) _)))).mono ?_;rintro e w' ⟨rfl,hb⟩;have hsz:=hb.size))
 go_wp2
 go_ret
 exact⟨rfl,(by repeat (first|exact Below.refl _ _|assumption|refine JF ?_ (by assumption)|refine Below.drew ?_|refine Below.alloc ?_ (by first|(simp;done)|(simp;omega)|omega) _|refine Below.setCell ?_ (by first|(simp;done)|(simp;omega)|omega) _))⟩
theorem QRP (pl c d m le sk x y z p q:Int)  (hi:0≤z∧z≤7)(w:World)(h:TextTabs w) :
 Calls Tryz.prog 96 #[shV pl c d m le sk x y z p q (ZC pl c d m le sk),.string ⟨#[83]⟩] w fun e w'=>e=.returned (.string (sb (pick QL z)))∧Below w.heap.size w w':=by
 have kn:=Lib.hid (fun W (hW:Below w.heap.size w W)=>qr pl c d m le sk (sb (pick QL z)) W)
 have i0:=hi.1
 have i1:z < 8:=by omega
 clear hi
 have t1:=fun o=>JI w o (h.regs.of QGc z i0 (by simp[QL];omega))
 clear h
 go_enter Tryz.func96,Tryz.ntmps96
 go_wp2_with fail
 have hs:=QDM w pl c d m le sk x y z p q (ZC pl c d m le sk) 104 11 8 (by omega) (by omega) (t1 _)
 simp only[List.getD_cons_zero,List.getD_cons_succ] at hs
 go_region_held3 (fun w'=>w'.cell? ⟨w.heap.size,11,none⟩=some (ZC pl c d m le sk)∧w'.cell? ⟨w.heap.size,8,none⟩=some (.int .i64 z)∧w'.cell? ⟨3,z.toNat,none⟩=some (.string (sb (pick QL z)))) (first|go_keep|exact QDQ hb (by assumption))
  (first
  | (go_at_call 95;refine (kn.out _ ((by repeat (first|exact Below.refl _ _|assumption|refine JF ?_ (by assumption)|refine Below.drew ?_|refine Below.alloc ?_ (by first|(simp;done)|(simp;omega)|omega) _|refine Below.setCell ?_ (by first|(simp;done)|(simp;omega)|omega) _)))).mono ?_;rintro e w' ⟨rfl,hb⟩;have hsz:=hb.size))
 go_wp2
 go_ret
 exact⟨rfl,(by repeat (first|exact Below.refl _ _|assumption|refine JF ?_ (by assumption)|refine Below.drew ?_|refine Below.alloc ?_ (by first|(simp;done)|(simp;omega)|omega) _|refine Below.setCell ?_ (by first|(simp;done)|(simp;omega)|omega) _))⟩
theorem QSp (pl c d m le sk x y z p q:Int)  (hi:0≤p∧p≤3)(w:World)(h:TextTabs w) :
 Calls Tryz.prog 96 #[shV pl c d m le sk x y z p q (ZC pl c d m le sk),.string ⟨#[80]⟩] w fun e w'=>e=.returned (.string (sb (pick QX p)))∧Below w.heap.size w w':=by
 have kn:=Lib.hid (fun W (hW:Below w.heap.size w W)=>qr pl c d m le sk (sb (pick QX p)) W)
 have i0:=hi.1
 have i1:p < 4:=by omega
 clear hi
 have t1:=fun o=>JI w o (h.pairs.of QLU p i0 (by simp[QX];omega))
 clear h
 go_enter Tryz.func96,Tryz.ntmps96
 go_wp2_with fail
 have hs:=QDM w pl c d m le sk x y z p q (ZC pl c d m le sk) 104 11 9 (by omega) (by omega) (t1 _)
 simp only[List.getD_cons_zero,List.getD_cons_succ] at hs
 go_region_held3 (fun w'=>w'.cell? ⟨w.heap.size,11,none⟩=some (ZC pl c d m le sk)∧w'.cell? ⟨w.heap.size,9,none⟩=some (.int .i64 p)∧w'.cell? ⟨4,p.toNat,none⟩=some (.string (sb (pick QX p)))) (first|go_keep|exact QDQ hb (by assumption))
  (first
  | (go_at_call 95;refine (kn.out _ ((by repeat (first|exact Below.refl _ _|assumption|refine JF ?_ (by assumption)|refine Below.drew ?_|refine Below.alloc ?_ (by first|(simp;done)|(simp;omega)|omega) _|refine Below.setCell ?_ (by first|(simp;done)|(simp;omega)|omega) _)))).mono ?_;rintro e w' ⟨rfl,hb⟩;have hsz:=hb.size))
 go_wp2
 go_ret
 exact⟨rfl,(by repeat (first|exact Below.refl _ _|assumption|refine JF ?_ (by assumption)|refine Below.drew ?_|refine Below.alloc ?_ (by first|(simp;done)|(simp;omega)|omega) _|refine Below.setCell ?_ (by first|(simp;done)|(simp;omega)|omega) _))⟩
theorem QTS (pl c d m le sk x y z p q:Int)  (hi:0≤p∧p≤3)(w:World)(h:TextTabs w) :
 Calls Tryz.prog 96 #[shV pl c d m le sk x y z p q (ZC pl c d m le sk),.string ⟨#[81]⟩] w fun e w'=>e=.returned (.string (sb (pick Xw p)))∧Below w.heap.size w w':=by
 have kn:=Lib.hid (fun W (hW:Below w.heap.size w W)=>qr pl c d m le sk (sb (pick Xw p)) W)
 have i0:=hi.1
 have i1:p < 4:=by omega
 clear hi
 have t1:=fun o=>JI w o (h.stacked.of QGE p i0 (by simp[Xw];omega))
 clear h
 go_enter Tryz.func96,Tryz.ntmps96
 go_wp2_with fail
 have hs:=QDM w pl c d m le sk x y z p q (ZC pl c d m le sk) 104 11 9 (by omega) (by omega) (t1 _)
 simp only[List.getD_cons_zero,List.getD_cons_succ] at hs
 go_region_held3 (fun w'=>w'.cell? ⟨w.heap.size,11,none⟩=some (ZC pl c d m le sk)∧w'.cell? ⟨w.heap.size,9,none⟩=some (.int .i64 p)∧w'.cell? ⟨5,p.toNat,none⟩=some (.string (sb (pick Xw p)))) (first|go_keep|exact QDQ hb (by assumption))
  (first
  | (go_at_call 95;refine (kn.out _ ((by repeat (first|exact Below.refl _ _|assumption|refine JF ?_ (by assumption)|refine Below.drew ?_|refine Below.alloc ?_ (by first|(simp;done)|(simp;omega)|omega) _|refine Below.setCell ?_ (by first|(simp;done)|(simp;omega)|omega) _)))).mono ?_;rintro e w' ⟨rfl,hb⟩;have hsz:=hb.size))
 go_wp2
 go_ret
 exact⟨rfl,(by repeat (first|exact Below.refl _ _|assumption|refine JF ?_ (by assumption)|refine Below.drew ?_|refine Below.alloc ?_ (by first|(simp;done)|(simp;omega)|omega) _|refine Below.setCell ?_ (by first|(simp;done)|(simp;omega)|omega) _))⟩
theorem QSi (pl c d m le sk x y z p q:Int)  (w:World)(h:TextTabs w) :
 Calls Tryz.prog 96 #[shV pl c d m le sk x y z p q (ZC pl c d m le sk),.string ⟨#[72]⟩] w fun e w'=>e=.returned (.string (sb [104,108]))∧Below w.heap.size w w':=by
 have kn:=Lib.hid (fun W (hW:Below w.heap.size w W)=>qr pl c d m le sk (sb [104,108]) W)
 generalize hR:sb [104,108]=R at *
 have kn:=Lib.hid (show ∀ W (hW:Below w.heap.size w W),Calls Tryz.prog 95 #[nmV pl c d m le sk,.string ⟨#[104,108]⟩] W fun e w'=>e=.returned (.string R)∧Below W.heap.size W w' from hR▸kn.out)
 clear h
 go_enter Tryz.func96,Tryz.ntmps96
 go_wp2_with (first
  | (go_at_call 95;refine (kn.out _ ((by repeat (first|exact Below.refl _ _|assumption|refine JF ?_ (by assumption)|refine Below.drew ?_|refine Below.alloc ?_ (by first|(simp;done)|(simp;omega)|omega) _|refine Below.setCell ?_ (by first|(simp;done)|(simp;omega)|omega) _)))).mono ?_;rintro e w' ⟨rfl,hb⟩;have hsz:=hb.size))
 go_ret
 exact⟨rfl,(by repeat (first|exact Below.refl _ _|assumption|refine JF ?_ (by assumption)|refine Below.drew ?_|refine Below.alloc ?_ (by first|(simp;done)|(simp;omega)|omega) _|refine Below.setCell ?_ (by first|(simp;done)|(simp;omega)|omega) _))⟩
end Go.Proofs.YtmgcgiecimnncaaGreatDoor
