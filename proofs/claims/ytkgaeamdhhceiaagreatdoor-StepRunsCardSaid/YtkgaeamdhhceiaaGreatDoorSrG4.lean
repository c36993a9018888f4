/- Contracts and facts that the claim's proof wants (several texts in one). -/
import Derived.Deep.RegionHeld3
import Derived.Laws.EntriesVeiled
import Derived.Maps.Own
import Derived.Test.YtkgaeamdhhceiaaGreatDoorSrG3
namespace Go.Proofs.YtkgaeamdhhceiaaGreatDoor
open Go.RowKit
set_option linter.unusedVariables false
set_option linter.unusedSimpArgs false
set_option maxRecDepth 20000
set_option maxHeartbeats 20000000
section
variable {P:Program} {a:Act} {o:Oper} {x y:Operand} {V W R:Value}
theorem Xs (ho:o.op=.move x∨o.op=.assign x)(hx:a.eval x=V)(w:World):(execOp a.eval o).run P w=.ok (.value V) w:=by
 unfold execOp
 rcases ho with ho|ho<;>simp only[ho,hx,Sem.run_pure]
theorem QCE {ad:Addr}(ho:o.op=.nilCheck x)(hx:a.eval x=.pointer (some ad))(w:World):(execOp a.eval o).run P w=.ok (.value (.pointer (some ad))) w:=by
 unfold execOp
 simp only[ho,hx,Sem.run_pure]
theorem ZH {t:TypeId} {f:Nat}(ho:o.op=.fieldAddr t x f)(hx:a.eval x=V)(hf:∀ w,(Instr.fieldAt t V f).run P w=.ok R w)(w:World):(execOp a.eval o).run P w=.ok (.value R) w:=by
 unfold execOp
 simp only[ho,hx,Sem.run_bind,Sem.run_pure,hf,Result.andThen_ok]
theorem jw {t:TypeId} {ad:Addr} {w:World}(ho:o.op=.load t x)(hx:a.eval x=.pointer (some ad))(hl:(Instr.loadAt t (.pointer (some ad))).run P w=.ok V w):(execOp a.eval o).run P w=.ok (.value V) w:=by
 unfold execOp
 simp only[ho,hx,Sem.run_bind,Sem.run_pure,hl,Result.andThen_ok]
theorem XC {t:TypeId} {ad:Addr} {w w':World}(ho:o.op=.store t x y)(hx:a.eval x=.pointer (some ad))(hy:a.eval y=V)(hl:(Instr.storeAt t (.pointer (some ad)) V).run P w=.ok () w'):(execOp a.eval o).run P w=.ok .skip w':=by
 unfold execOp
 simp only[ho,hx,hy,Sem.run_bind,Sem.run_pure,hl,Result.andThen_ok]
theorem QDv {op:BinOp} {t r:TypeId}(ho:o.op=.binOp op t x y r)(hx:a.eval x=V)(hy:a.eval y=W)(hg:∀ w,(eqGuard op t x y V W).run P w=.ok () w)(hb:∀ w,(binOp op t V W).run P w=.ok R w)(w:World):(execOp a.eval o).run P w=.ok (.value R) w:=by
 unfold execOp
 simp only[ho,hx,hy,Sem.run_bind,Sem.run_pure,hg,hb,Result.andThen_ok]
theorem heUn {op:UnOp} {t:TypeId}(ho:o.op=.unOp op t x)(hx:a.eval x=V)(hb:∀ w,(Op.unary op V).run P w=.ok R w)(w:World):(execOp a.eval o).run P w=.ok (.value R) w:=by
 unfold execOp
 simp only[ho,hx,Sem.run_bind,Sem.run_pure,hb,Result.andThen_ok]
theorem QT8 {c:Operand} {b:Bool}(ho:o.op=.pick c x y)(hc:a.eval c=.bool b)(hv:(if b=true then a.eval x else a.eval y)=V)(w:World):(execOp a.eval o).run P w=.ok (.value V) w:=by
 unfold execOp
 simp only[ho,hc,←hv,asBool,Sem.run_bind,Sem.run_pure,Result.andThen_ok]
theorem QIZ {t:TypeId} {parts:Array (Nat×Operand)} {cells:Array Value}(ho:o.op=.build t parts)(hc:P.built t (parts.map fun (i,x)=>(i,a.eval x)).toList=some cells)(w:World):(execOp a.eval o).run P w=.ok (.value (.agg cells)) w:=by
 unfold execOp
 simp only[ho,Sem.run_bind,run_build w t _ cells hc,Result.andThen_ok,Sem.run_pure]
theorem XY {i:Nat} {vs:Array Value}(ho:o.op=.extract x i)(hx:a.eval x=.tuple vs)(hi:vs[i]?=some V)(w:World):(execOp a.eval o).run P w=.ok (.value V) w:=by
 unfold execOp
 simp[ho,hx,Instr.extract,hi]
theorem QMG {t:TypeId} {w:World}(ho:o.op=.indexAddr t x y)(hx:a.eval x=V)(hy:a.eval y=W)(hl:(Instr.indexAt t V W).run P w=.ok R w):(execOp a.eval o).run P w=.ok (.value R) w:=by
 unfold execOp
 simp only[ho,hx,hy,Sem.run_bind,Sem.run_pure,hl,Result.andThen_ok]
end
theorem ld8 {w:World} {ad:Addr} {V:Value}(h:w.cell? ad=some V):(Instr.loadAt 5 (.pointer (some ad))).run Tryz.prog w=.ok V w:=by simp[go_sem,h]
theorem QNz {w:World} {ad:Addr} {V:Value}(h:w.cell? ad=some V):(Instr.loadAt 22 (.pointer (some ad))).run Tryz.prog w=.ok V w:=by simp[go_sem,h]
theorem ldI {w:World} {ad:Addr} {V:Value}(h:w.cell? ad=some V):(Instr.loadAt 3 (.pointer (some ad))).run Tryz.prog w=.ok V w:=by simp[go_sem,h]
theorem ldB {w:World} {ad:Addr} {V:Value}(h:w.cell? ad=some V):(Instr.loadAt 4 (.pointer (some ad))).run Tryz.prog w=.ok V w:=by simp[go_sem,h]
theorem ldS {w:World} {ad:Addr} {V:Value}(h:w.cell? ad=some V):(Instr.loadAt 26 (.pointer (some ad))).run Tryz.prog w=.ok V w:=by simp[go_sem,h]
theorem st8 {w:World} {ad:Addr} {V:Value} {v:Int}(h:w.cell? ad=some V)(hz:w.frozen? ad=false):(Instr.storeAt 5 (.pointer (some ad)) (.int .u8 v)).run Tryz.prog w=.ok () (w.setCell ad (.int .u8 v)):=by simp[go_sem,h,hz]
theorem QNq {w:World} {ad:Addr} {V:Value} {v:Int}(h:w.cell? ad=some V)(hz:w.frozen? ad=false):(Instr.storeAt 22 (.pointer (some ad)) (.int .u16 v)).run Tryz.prog w=.ok () (w.setCell ad (.int .u16 v)):=by simp[go_sem,h,hz]
theorem stI {w:World} {ad:Addr} {V:Value} {v:Int}(h:w.cell? ad=some V)(hz:w.frozen? ad=false):(Instr.storeAt 3 (.pointer (some ad)) (.int .i64 v)).run Tryz.prog w=.ok () (w.setCell ad (.int .i64 v)):=by simp[go_sem,h,hz]
theorem stB {w:World} {ad:Addr} {V:Value} {v:Bool}(h:w.cell? ad=some V)(hz:w.frozen? ad=false):(Instr.storeAt 4 (.pointer (some ad)) (.bool v)).run Tryz.prog w=.ok () (w.setCell ad (.bool v)):=by simp[go_sem,h,hz]
theorem QK5:(Tryz.prog.info? 24).map (·.size)=some 20:=by kernel_rfl
theorem ldR {w:World} {b o:Nat} {g:Rg}(h:w.rangeAt b o (JH g).toList):(Instr.loadAt 24 (.pointer (some ⟨b,o,none⟩))).run Tryz.prog w=.ok (JG g) w :=
 run_loadAt_mid w b o 24 (JH g).toList _ h Tryz.underlying24 rfl QK5
theorem stR {w:World} {b o:Nat} {g:Rg}(h:w.there b o (JH g).size):(Instr.storeAt 24 (.pointer (some ⟨b,o,none⟩)) (JG g)).run Tryz.prog w=.ok () (w.setCells b o (JH g).toList) :=
 run_storeAt_mid w b o 24 (JH g) h QK5 (by simp[JH,Value.oneCell'])
theorem egI (op:BinOp)(x y:Operand)(a b:Int)(w:World):(eqGuard op 3 x y (.int .i64 a) (.int .i64 b)).run Tryz.prog w=.ok () w:=by simp[go_sem]
theorem eg8 (op:BinOp)(x y:Operand)(a b:Int)(w:World):(eqGuard op 5 x y (.int .u8 a) (.int .u8 b)).run Tryz.prog w=.ok () w:=by simp[go_sem]
theorem eg16 (op:BinOp)(x y:Operand)(a b:Int)(w:World):(eqGuard op 22 x y (.int .u16 a) (.int .u16 b)).run Tryz.prog w=.ok () w:=by simp[go_sem]
theorem Zi (x y:Int)(w:World):(binOp .eql 3 (.int .i64 x) (.int .i64 y)).run Tryz.prog w=.ok (.bool (x==y)) w:=by simp[go_sem]
theorem QSL (x y:Int)(w:World):(binOp .neq 3 (.int .i64 x) (.int .i64 y)).run Tryz.prog w=.ok (.bool (x != y)) w:=by simp[go_sem,bne]
theorem QCs (x y:Int)(w:World):(binOp .eql 5 (.int .u8 x) (.int .u8 y)).run Tryz.prog w=.ok (.bool (x==y)) w:=by simp[go_sem]
theorem bLtI (x y:Int)(w:World):(binOp .lss 3 (.int .i64 x) (.int .i64 y)).run Tryz.prog w=.ok (.bool (decide (x < y))) w:=by simp[go_sem]
theorem QTr (x y:Int)(w:World):(binOp .add 22 (.int .u16 x) (.int .u16 y)).run Tryz.prog w=.ok (.int .u16 ((x+y)%65536)) w:=by simp[go_sem,IntKind.wrap_u16]
theorem QV1 (x y:Int)(w:World):(binOp .and 5 (.int .u8 x) (.int .u8 y)).run Tryz.prog w=.ok (.int .u8 (bits .and .u8 x y)) w:=by simp[go_sem]
theorem QUY (x y:Int)(w:World):(binOp .or 5 (.int .u8 x) (.int .u8 y)).run Tryz.prog w=.ok (.int .u8 (bits .or .u8 x y)) w:=by simp[go_sem]
theorem QQu (x y:Int)(h:-9223372036854775808≤x-y)(h':x-y≤9223372036854775807)(w:World):(binOp .sub 3 (.int .i64 x) (.int .i64 y)).run Tryz.prog w=.ok (.int .i64 (x-y)) w:=by
 have e:IntKind.i64.wrap (x-y)=x-y:=by rw[IntKind.wrap_i64];omega
 simp[go_sem,e]
theorem QTG (x y:Int)(h:-9223372036854775808≤x*y)(h':x*y≤9223372036854775807)(w:World):(binOp .mul 3 (.int .i64 x) (.int .i64 y)).run Tryz.prog w=.ok (.int .i64 (x*y)) w:=by
 have e:IntKind.i64.wrap (x*y)=x*y:=by rw[IntKind.wrap_i64];omega
 simp[go_sem,e]
theorem uNot (b:Bool)(w:World):(Op.unary .not (.bool b)).run Tryz.prog w=.ok (.bool (!b)) w:=by rfl
section
variable {P:Program} {ops:Array Oper} {Q:Exit→Act→World→Prop} {a:Act} {w:World} {o:Oper} {rest:List Oper} {x y:Operand} {W:Value}
theorem JL (hg:o.guard=none):Region.wanted o (yielded ops a.tmps)=true:=by simp only[Region.wanted,hg]
theorem QTT (d:Tmp)(V:Value)(hd:o.dst=some d)(hg:o.guard=none)(ho:o.op=.move x∨o.op=.assign x)(hx:a.eval x=V)(h:WL P ops Q rest (a.put (some d) V) w):WL P ops Q (o :: rest) a w :=
 Ji d V hd (JL hg) (Xs ho hx w) h
theorem sNil (d:Tmp)(ad:Addr)(hd:o.dst=some d)(hg:o.guard=none)(ho:o.op=.nilCheck x)(hx:a.eval x=.pointer (some ad))(h:WL P ops Q rest (a.put (some d) (.pointer (some ad))) w):WL P ops Q (o :: rest) a w :=
 Ji d _ hd (JL hg) (QCE ho hx w) h
theorem QUW (d:Tmp)(V R:Value){t:TypeId} {f:Nat}(hd:o.dst=some d)(hg:o.guard=none)(ho:o.op=.fieldAddr t x f)(hx:a.eval x=V)(hf:∀ w,(Instr.fieldAt t V f).run P w=.ok R w)(h:WL P ops Q rest (a.put (some d) R) w):WL P ops Q (o :: rest) a w :=
 Ji d R hd (JL hg) (ZH ho hx hf w) h
theorem QV3 (d:Tmp)(ad:Addr)(V:Value){t:TypeId}(hd:o.dst=some d)(hg:o.guard=none)(ho:o.op=.load t x)(hx:a.eval x=.pointer (some ad))(hl:(Instr.loadAt t (.pointer (some ad))).run P w=.ok V w)(h:WL P ops Q rest (a.put (some d) V) w):WL P ops Q (o :: rest) a w :=
 Ji d V hd (JL hg) (jw ho hx hl) h
theorem QLK (ad:Addr)(V:Value){t:TypeId} {w':World}(hd:o.dst=none)(hg:o.guard=none)(ho:o.op=.store t x y)(hx:a.eval x=.pointer (some ad))(hy:a.eval y=V)(hl:(Instr.storeAt t (.pointer (some ad)) V).run P w=.ok () w')(h:WL P ops Q rest (a.put none undef) w'):WL P ops Q (o :: rest) a w :=
 X5 hd (JL hg) (XC ho hx hy hl) h
theorem sBin (d:Tmp)(V W R:Value){op:BinOp} {t r:TypeId}(hd:o.dst=some d)(hg:o.guard=none)(ho:o.op=.binOp op t x y r)(hx:a.eval x=V)(hy:a.eval y=W)(hgd:∀ w,(eqGuard op t x y V W).run P w=.ok () w)(hb:∀ w,(binOp op t V W).run P w=.ok R w)(h:WL P ops Q rest (a.put (some d) R) w):WL P ops Q (o :: rest) a w :=
 Ji d R hd (JL hg) (QDv ho hx hy hgd hb w) h
theorem QV5 (d:Tmp)(V:Value)(b:Bool){c:Operand}(hd:o.dst=some d)(hg:o.guard=none)(ho:o.op=.pick c x y)(hc:a.eval c=.bool b)(hv:(if b=true then a.eval x else a.eval y)=V)(h:WL P ops Q rest (a.put (some d) V) w):WL P ops Q (o :: rest) a w :=
 Ji d V hd (JL hg) (QT8 ho hc hv w) h
theorem QTz (d:Tmp)(cells:Array Value){t:TypeId} {parts:Array (Nat×Operand)}(hd:o.dst=some d)(hg:o.guard=none)(ho:o.op=.build t parts)(hc:P.built t (parts.map fun (i,x)=>(i,a.eval x)).toList=some cells)(h:WL P ops Q rest (a.put (some d) (.agg cells)) w):WL P ops Q (o :: rest) a w :=
 Ji d _ hd (JL hg) (QIZ ho hc w) h
theorem QQ0 (d:Tmp)(vs:Array Value)(V:Value){i:Nat}(hd:o.dst=some d)(hg:o.guard=none)(ho:o.op=.extract x i)(hx:a.eval x=.tuple vs)(hi:vs[i]?=some V)(h:WL P ops Q rest (a.put (some d) V) w):WL P ops Q (o :: rest) a w :=
 Ji d V hd (JL hg) (XY ho hx hi w) h
theorem QUe (d:Tmp)(V W R:Value){t:TypeId}(hd:o.dst=some d)(hg:o.guard=none)(ho:o.op=.indexAddr t x y)(hx:a.eval x=V)(hy:a.eval y=W)(hl:(Instr.indexAt t V W).run P w=.ok R w)(h:WL P ops Q rest (a.put (some d) R) w):WL P ops Q (o :: rest) a w :=
 Ji d R hd (JL hg) (QMG ho hx hy hl) h
theorem QVU (V:Value){g:FuncId} {args:Array Value} {N:World→Prop}(hg:o.guard=none)(he:(execOp a.eval o).run P w=.ok (.enter g args) w)(hc:Calls P g args w fun e w'=>e=.returned V∧N w')
 (h:∀ w',N w'→WL P ops Q rest (a.put o.dst V) w'):WL P ops Q (o :: rest) a w :=
 XQ (JL hg) he hc fun e w' ⟨h1,h2⟩=>by subst h1;exact h w' h2
theorem JK {next:Act→World→Prop}(h:next a w):Exit.then next Q .normal a w:=h
theorem QMl {next:Act→World→Prop}(h:Q .ret a w):Exit.then next Q .ret a w:=h
theorem j9 {next:Act→World→Prop} {c:List PanicEntry}(h:Q (.panic c) a w):Exit.then next Q (.panic c) a w:=h
theorem QD4 {next:Act→World→Prop} {i:Nat}(h:Q (.exit i) a w):Exit.then next Q (.exit i) a w:=h
theorem Q8 {i:Nat}(h:Q .normal a w):Exit.inBlock i Q .normal a w:=h
theorem QAq {i:Nat} {c:List PanicEntry}(h:Q (.panic c) a w):Exit.inBlock i Q (.panic c) a w:=h
theorem QH9 {i:Nat}(h:Q .normal a w):Exit.inBlock i Q (.exit i) a w:=by simp only[Exit.inBlock,if_true];exact h
theorem ZT {fn:Func} {R:Ending→World→Prop}(h:fn.results=#[])(hd:a.defers=[])(hR:R (.returned (.tuple #[])) w):bodyPost P fn R .normal a w:=bodyPost_end (results_none h _ _ _) hd hR
theorem retV {fn:Func} {R:Ending→World→Prop}(h:fn.results=#[])(hd:a.defers=[])(hR:R (.returned (.tuple #[])) w):bodyPost P fn R .ret a w:=bodyPost_ret (results_none h _ _ _) hd hR
theorem QQE {fn:Func} {R:Ending→World→Prop}(t:Tmp)(V:Value)(h:fn.results=#[.tmp t])(hv:a.tmps.getD t undef=V)(hd:a.defers=[])(hR:R (.returned V) w):bodyPost P fn R .ret a w:=bodyPost_ret (by rw[results_tmp h,hv]) hd hR
theorem Q6 {fn:Func} {R:Ending→World→Prop} {c:List PanicEntry}(hd:a.defers=[])(hR:R (.panicked c) w):bodyPost P fn R (.panic c) a w:=⟨hd,hR⟩
end
section
variable {α β:Type}
theorem JI {c:Prop} [Decidable c] {t e:Tr α} {xs:List Int}(hc:c):(if c then t else e).run xs=t.run xs:=by rw[if_pos hc]
theorem JF {c:Prop} [Decidable c] {t e:Tr α} {xs:List Int}(hc:¬c):(if c then t else e).run xs=e.run xs:=by rw[if_neg hc]
theorem zk {c:Prop} [Decidable c] {t e:Tr α} {f:α→Tr β} {xs:List Int}(hc:c):((if c then t else e).bind f).run xs=(t.bind f).run xs:=by rw[if_pos hc]
theorem zj {c:Prop} [Decidable c] {t e:Tr α} {f:α→Tr β} {xs:List Int}(hc:¬c):((if c then t else e).bind f).run xs=(e.bind f).run xs:=by rw[if_neg hc]
theorem Wd16.mod (x:Int):Wd16 (x%65536):=⟨by omega,by omega⟩
theorem B8.mod (x:Int):B8 (x%256):=⟨by omega,by omega⟩
end
@[reducible] def pT (b k:Nat):Value:=.pointer (some ⟨b,k,none⟩)
theorem sA {α:Type}(l:List α)(i:Nat)(a:α):l.toArray.setIfInBounds i a=(l.set i a).toArray:=List.setIfInBounds_toArray l i a
theorem sB {α:Type}(x a:α)(l:List α):(x :: l).set 0 a=a :: l:=List.set_cons_zero
theorem sC {α:Type}(x a:α)(l:List α)(i:Nat):(x :: l).set (i+1) a=x :: l.set i a:=List.set_cons_succ
section
variable {P:Program} {ops:Array Oper} {Q:Exit→Act→World→Prop} {a:Act} {w:World} {o:Oper} {rest:List Oper} {x y:Operand} {V W R:Value} {t r:TypeId}
theorem oM (d:Tmp)(V:Value)(h:WL P ops Q rest (a.put (some d) V) w)(hd:o.dst=some d:=by exact rfl)(hg:o.guard=none:=by exact rfl)(ho:o.op=.move x:=by exact rfl)(hx:a.eval x=V:=by kernel_rfl):WL P ops Q (o :: rest) a w:=QTT d V hd hg (.inl ho) hx h
theorem oA (d:Tmp)(V:Value)(h:WL P ops Q rest (a.put (some d) V) w)(hd:o.dst=some d:=by exact rfl)(hg:o.guard=none:=by exact rfl)(ho:o.op=.assign x:=by exact rfl)(hx:a.eval x=V:=by kernel_rfl):WL P ops Q (o :: rest) a w:=QTT d V hd hg (.inr ho) hx h
theorem oN (d:Tmp)(p k:Nat)(h:WL P ops Q rest (a.put (some d) (pT p k)) w)(hd:o.dst=some d:=by exact rfl)(hg:o.guard=none:=by exact rfl)(ho:o.op=.nilCheck x:=by exact rfl)(hx:a.eval x=pT p k:=by kernel_rfl):WL P ops Q (o :: rest) a w:=sNil d ⟨p,k,none⟩ hd hg ho hx h
theorem oF (d:Tmp){f:Nat}(hf:∀ w,(Instr.fieldAt t V f).run P w=.ok R w)(h:WL P ops Q rest (a.put (some d) R) w)(hd:o.dst=some d:=by exact rfl)(hg:o.guard=none:=by exact rfl)(ho:o.op=.fieldAddr t x f:=by exact rfl)(hx:a.eval x=V:=by kernel_rfl):WL P ops Q (o :: rest) a w:=QUW d V R hd hg ho hx hf h
theorem oL (d:Tmp){ad:Addr}(hl:(Instr.loadAt t (.pointer (some ad))).run P w=.ok V w)(h:WL P ops Q rest (a.put (some d) V) w)(hd:o.dst=some d:=by exact rfl)(hg:o.guard=none:=by exact rfl)(ho:o.op=.load t x:=by exact rfl)(hx:a.eval x=.pointer (some ad):=by kernel_rfl):WL P ops Q (o :: rest) a w:=QV3 d ad V hd hg ho hx hl h
theorem oB (d:Tmp){op:BinOp}(hgd:∀ w,(eqGuard op t x y V W).run P w=.ok () w)(hb:∀ w,(binOp op t V W).run P w=.ok R w)(h:WL P ops Q rest (a.put (some d) R) w)(hd:o.dst=some d:=by exact rfl)(hg:o.guard=none:=by exact rfl)(ho:o.op=.binOp op t x y r:=by exact rfl)(hx:a.eval x=V:=by kernel_rfl)(hy:a.eval y=W:=by kernel_rfl):WL P ops Q (o :: rest) a w:=sBin d V W R hd hg ho hx hy hgd hb h
theorem oJ (d:Tmp)(V W R:Value){op:BinOp}(hgd:∀ w,(eqGuard op t x y V W).run P w=.ok () w)(hb:∀ w,(binOp op t V W).run P w=.ok R w)(h:WL P ops Q rest (a.put (some d) R) w)(hd:o.dst=some d:=by exact rfl)(hg:o.guard=none:=by exact rfl)(ho:o.op=.binOp op t x y r:=by exact rfl)(hx:a.eval x=V:=by kernel_rfl)(hy:a.eval y=W:=by kernel_rfl):WL P ops Q (o :: rest) a w:=sBin d V W R hd hg ho hx hy hgd hb h
theorem oP (d:Tmp)(V:Value)(b:Bool){c:Operand}(h:WL P ops Q rest (a.put (some d) V) w)(hd:o.dst=some d:=by exact rfl)(hg:o.guard=none:=by exact rfl)(ho:o.op=.pick c x y:=by exact rfl)(hc:a.eval c=.bool b:=by kernel_rfl)(hv:(if b=true then a.eval x else a.eval y)=V:=by kernel_rfl):WL P ops Q (o :: rest) a w:=QV5 d V b hd hg ho hc hv h
theorem oX (d:Tmp)(vs:Array Value)(V:Value){i:Nat}(h:WL P ops Q rest (a.put (some d) V) w)(hd:o.dst=some d:=by exact rfl)(hg:o.guard=none:=by exact rfl)(ho:o.op=.extract x i:=by exact rfl)(hx:a.eval x=.tuple vs:=by kernel_rfl)(hi:vs[i]?=some V:=by kernel_rfl):WL P ops Q (o :: rest) a w:=QQ0 d vs V hd hg ho hx hi h
theorem oS (ad:Addr)(V:Value){w':World}(hl:(Instr.storeAt t (.pointer (some ad)) V).run P w=.ok () w')(h:WL P ops Q rest (a.put none undef) w')(hd:o.dst=none:=by exact rfl)(hg:o.guard=none:=by exact rfl)(ho:o.op=.store t x y:=by exact rfl)(hx:a.eval x=.pointer (some ad):=by kernel_rfl)(hy:a.eval y=V:=by kernel_rfl):WL P ops Q (o :: rest) a w:=QLK ad V hd hg ho hx hy hl h
theorem oU (d:Tmp)(cells:Array Value){parts:Array (Nat×Operand)}(h:WL P ops Q rest (a.put (some d) (.agg cells)) w)(hd:o.dst=some d:=by exact rfl)(hg:o.guard=none:=by exact rfl)(ho:o.op=.build t parts:=by exact rfl)(hc:P.built t (parts.map fun (i,x)=>(i,a.eval x)).toList=some cells:=by kernel_rfl):WL P ops Q (o :: rest) a w:=QTz d cells hd hg ho hc h
theorem oI (d:Tmp)(V W R:Value)(hl:(Instr.indexAt t V W).run P w=.ok R w)(h:WL P ops Q rest (a.put (some d) R) w)(hd:o.dst=some d:=by exact rfl)(hg:o.guard=none:=by exact rfl)(ho:o.op=.indexAddr t x y:=by exact rfl)(hx:a.eval x=V:=by kernel_rfl)(hy:a.eval y=W:=by kernel_rfl):WL P ops Q (o :: rest) a w:=QUe d V W R hd hg ho hx hy hl h
theorem oZ (d:Tmp)(h:WL P ops Q rest (a.put (some d) undef) w)(hd:o.dst=some d:=by exact rfl)(hw:Region.wanted o (yielded ops a.tmps)=false:=by kernel_rfl):WL P ops Q (o :: rest) a w:=QDW d hd hw h
theorem oT (d:Tmp)(V:Value)(he:(execOp a.eval o).run P w=.ok (.value V) w)(h:WL P ops Q rest (a.put (some d) V) w)(hd:o.dst=some d:=by exact rfl)(hw:Region.wanted o (yielded ops a.tmps)=true:=by kernel_rfl):WL P ops Q (o :: rest) a w:=Ji d V hd hw he h
theorem oY (d:Tmp)(V:Value)(h:WL P ops Q rest (a.put (some d) V) w)(hd:o.dst=some d:=by exact rfl)(hw:Region.wanted o (yielded ops a.tmps)=true:=by kernel_rfl)(ho:o.op=.move x:=by exact rfl)(hx:a.eval x=V:=by kernel_rfl):WL P ops Q (o :: rest) a w:=Ji d V hd hw (Xs (.inl ho) hx _) h
theorem oC (V:Value){g:FuncId} {args:Array Value} {N:World→Prop}(hc:Calls P g args w fun e w'=>e=.returned V∧N w')(h:∀ w',N w'→WL P ops Q rest (a.put o.dst V) w')(hg:o.guard=none:=by exact rfl)(he:(execOp a.eval o).run P w=.ok (.enter g args) w:=by kernel_rfl):WL P ops Q (o :: rest) a w:=QVU V hg he hc h
end
section
variable {P:Program} {ops:Array Oper} {Q:Exit→Act→World→Prop} {a:Act} {w:World} {o:Oper} {S:World→Prop} {n f:Nat} {listed:Array Bool} {x y:Operand} {V W R:Value} {t r:TypeId}
theorem yG (i:Nat)(d:Tmp)(v:Value)(ho:ops[i]?=some o)(he:∀ w,S w→(execOp a.eval o).run P w=.ok (.value v) w)(hS:S w)(h:Zw P ops Q S n f (listed.setIfInBounds i true) (a.put (some d) v) w)(hd:o.dst=some d:=by exact rfl)(hB:Q4 ops n=true:=by kernel_rfl)(hin:decide (i < n)=true:=by kernel_rfl)
 (hf:Region.free .any ops listed i=true:=by kernel_rfl)(hr:(Region.ready .any ops listed).contains i=true:=by kernel_rfl)(hQ:∀ c a w,Q (.panic c) (a.put o.dst v) w→Q (.panic c) a w:=by exact fun _ _ _ h=>h)(hw:Region.wanted o (yielded ops a.tmps)=true:=by kernel_rfl):Zw P ops Q S n (f+1) listed a w :=
 jF d v hd ho hB hin hf hr hQ hw he hS h
theorem yM (i:Nat)(d:Tmp)(v:Value)(hS:S w)(h:Zw P ops Q S n f (listed.setIfInBounds i true) (a.put (some d) v) w)(ho:ops[i]?=some o:=by exact rfl)(hd:o.dst=some d:=by exact rfl)(hB:Q4 ops n=true:=by kernel_rfl)(hin:decide (i < n)=true:=by kernel_rfl)
 (hf:Region.free .any ops listed i=true:=by kernel_rfl)(hr:(Region.ready .any ops listed).contains i=true:=by kernel_rfl)(hQ:∀ c a w,Q (.panic c) (a.put o.dst v) w→Q (.panic c) a w:=by exact fun _ _ _ h=>h)(hw:Region.wanted o (yielded ops a.tmps)=true:=by kernel_rfl)
 (hp:o.op=.move x:=by exact rfl)(hx:a.eval x=v:=by kernel_rfl):Zw P ops Q S n (f+1) listed a w :=
 jF d v hd ho hB hin hf hr hQ hw (fun w _=>Xs (.inl hp) hx w) hS h
theorem yN (i:Nat)(d:Tmp)(p k:Nat)(hS:S w)(h:Zw P ops Q S n f (listed.setIfInBounds i true) (a.put (some d) (pT p k)) w)(ho:ops[i]?=some o:=by exact rfl)(hd:o.dst=some d:=by exact rfl)(hB:Q4 ops n=true:=by kernel_rfl)(hin:decide (i < n)=true:=by kernel_rfl)
 (hf:Region.free .any ops listed i=true:=by kernel_rfl)(hr:(Region.ready .any ops listed).contains i=true:=by kernel_rfl)(hQ:∀ c a w,Q (.panic c) (a.put o.dst (pT p k)) w→Q (.panic c) a w:=by exact fun _ _ _ h=>h)(hw:Region.wanted o (yielded ops a.tmps)=true:=by kernel_rfl)
 (hp:o.op=.nilCheck x:=by exact rfl)(hx:a.eval x=pT p k:=by kernel_rfl):Zw P ops Q S n (f+1) listed a w :=
 jF d (pT p k) hd ho hB hin hf hr hQ hw (fun w _=>QCE hp hx w) hS h
theorem yF (i:Nat)(d:Tmp){j:Nat}(hl:∀ w,(Instr.fieldAt t V j).run P w=.ok R w)(hS:S w)(h:Zw P ops Q S n f (listed.setIfInBounds i true) (a.put (some d) R) w)(ho:ops[i]?=some o:=by exact rfl)(hd:o.dst=some d:=by exact rfl)(hB:Q4 ops n=true:=by kernel_rfl)(hin:decide (i < n)=true:=by kernel_rfl)
 (hf:Region.free .any ops listed i=true:=by kernel_rfl)(hr:(Region.ready .any ops listed).contains i=true:=by kernel_rfl)(hQ:∀ c a w,Q (.panic c) (a.put o.dst R) w→Q (.panic c) a w:=by exact fun _ _ _ h=>h)(hw:Region.wanted o (yielded ops a.tmps)=true:=by kernel_rfl)
 (hp:o.op=.fieldAddr t x j:=by exact rfl)(hx:a.eval x=V:=by kernel_rfl):Zw P ops Q S n (f+1) listed a w :=
 jF d R hd ho hB hin hf hr hQ hw (fun w _=>ZH hp hx hl w) hS h
theorem yL (i:Nat)(d:Tmp){ad:Addr}(V:Value)(hl:∀ w,S w→(Instr.loadAt t (.pointer (some ad))).run P w=.ok V w)(hS:S w)(h:Zw P ops Q S n f (listed.setIfInBounds i true) (a.put (some d) V) w)(ho:ops[i]?=some o:=by exact rfl)(hd:o.dst=some d:=by exact rfl)(hB:Q4 ops n=true:=by kernel_rfl)(hin:decide (i < n)=true:=by kernel_rfl)
 (hf:Region.free .any ops listed i=true:=by kernel_rfl)(hr:(Region.ready .any ops listed).contains i=true:=by kernel_rfl)(hQ:∀ c a w,Q (.panic c) (a.put o.dst V) w→Q (.panic c) a w:=by exact fun _ _ _ h=>h)(hw:Region.wanted o (yielded ops a.tmps)=true:=by kernel_rfl)
 (hp:o.op=.load t x:=by exact rfl)(hx:a.eval x=.pointer (some ad):=by kernel_rfl):Zw P ops Q S n (f+1) listed a w :=
 jF d V hd ho hB hin hf hr hQ hw (fun w hS=>jw hp hx (hl w hS)) hS h
end
def Qi (h:Bool)(v:Int):Int:=if h then v else 0
theorem QPH (h:Bool)(v:Int)(h0:0≤v)(h1:v≤255)(w:World) :
 Calls Tryz.prog 336 #[.bool h,.int .u8 v] w fun e w'=>e=.returned (.int .u8 (Qi h v))∧w=w':=by
 cases h
 all_goals
  go_enter Tryz.func336,Tryz.ntmps336
  go_wp2
  go_ret
  exact⟨rfl,rfl⟩
theorem QRi:∀ k:Fin 8,(2:Int) ^ k.val%256=2 ^ k.val∧(1:Int)≤2 ^ k.val∧(2:Int) ^ k.val≤128∧(2 ^ k.val*2:Int)%256=2 ^ (k.val+1)%256:=by decide +kernel
theorem QBq (k:Nat)(hk:k < 8):(2:Int) ^ k%256=2 ^ k∧(1:Int)≤2 ^ k∧(2:Int) ^ k≤128∧(2 ^ k*2:Int)%256=2 ^ (k+1)%256:=QRi ⟨k,hk⟩
theorem QLG (a b:Int)(ha:B8 a)(hb:B8 b)(k:Nat)(hk:k < 8):(bits .and .u8 (bits .or .u8 a b) (2 ^ k) != 0)=(isM a k||isM b k):=by
 have h:=QIS a b ha.1 ha.2 hb.1 hb.2
 have e:=QHk (bits .or .u8 a b) (k:Int) h.1 h.2 (by omega) (by omega)
 rw[Int.toNat_natCast,(QBq k hk).1] at e
 rw[e,QOm a b k hk ha.1 ha.2 hb.1 hb.2]
theorem QJs (a b:Int)(ha:B8 a)(hb:B8 b)(k:Nat)(hk:k < 8):(bits .and .u8 (bits .and .u8 a b) (2 ^ k) != 0)=(isM a k&&isM b k):=by
 have h:=QCf a b ha.1 ha.2 hb.1 hb.2
 have e:=QHk (bits .and .u8 a b) (k:Int) h.1 h.2 (by omega) (by omega)
 rw[Int.toNat_natCast,(QBq k hk).1] at e
 rw[e,QEa a b k hk ha.1 ha.2 hb.1 hb.2]
theorem QUZ (x:Int)(hx:B8 x)(k:Nat)(hk:k < 8):bits .or .u8 x (2 ^ k)=JO x k true:=by
 have e:=or_bit x (k:Int) hx.1 hx.2 (by omega) (by omega)
 rwa [Int.toNat_natCast,(QBq k hk).1] at e
theorem QCq (B:Int)(h1:1≤B)(h2:B≤128):(if B*2%256=0 then 0 else 256-(B*2%256).toNat) < if B=0 then 0 else 256-B.toNat:=by
 rw[if_neg (show ¬B=0 by omega)]
 by_cases h:B*2%256=0
 · rw[if_pos h];omega
 · rw[if_neg h];omega
theorem QI9 (a b:Int)(c:Bool)(ha:B8 a)(hb:B8 b)(w:World) :
 Calls Tryz.prog 337 #[.int .u8 a,.int .u8 b,.bool c] w fun e w'=>e=.returned (.int .u8 (zV a b c 8))∧w=w':=by
 go_enter Tryz.func337,Tryz.ntmps337
 go_wp2
 go_loop [2,7,8] (fun cc o i=>∃ k:Nat,k≤8∧cc=.bool (cK a b c k)∧o=.int .u8 (zV a b c k)∧i=.int .u8 (2 ^ k%256)) (fun _ _ i=>if intOf i=0 then 0 else 256-(intOf i).toNat)
 case atStart=>exact⟨0,by omega,by rw[QRH],rfl,rfl⟩
 case round =>
  obtain⟨k,hk,rfl,rfl,rfl⟩:=hrel
  by_cases hlt:k < 8
  · obtain⟨p0,p1,p2,p3⟩:=QBq k hlt
    have hs:=QRo a b c k hlt
    have o0:=QLG a b ha hb k hlt
    have o1:=QJs a b ha hb k hlt
    have o2:=Lib.hid (QUZ _ (QB5 a b c k) k hlt)
    have e2:zV a b c (k+1)=if cK a b c (k+1) then JO (zV a b c k) k true else zV a b c k:=rfl
    rw[p0]
    have P0:=Lib.hid p0
    have P3:=Lib.hid p3
    clear p0 p3
    generalize hB:(2:Int) ^ k=B at *
    have nz:(B != 0)=true:=by simp;omega
    cases hc:cK a b c k
    · rw[hc] at hs
      simp only[Bool.false_eq_true,if_false,if_true] at hs
      rw[←hs] at o1
      cases hd:cK a b c (k+1)
      · rw[hd] at o1 e2
        have HC:=Lib.hid hc
        have HD:=Lib.hid hd
        have E2:=Lib.hid e2
        clear hs o0 hc hd e2
        go_wp2
        refine⟨⟨k+1,by omega,by rw[HD.out],?_,by rw[P3.out]⟩,?_⟩
        · rw[E2.out];rfl
        · exact QCq B p1 p2
      · rw[hd] at o1 e2
        have HC:=Lib.hid hc
        have HD:=Lib.hid hd
        have E2:=Lib.hid e2
        clear hs o0 hc hd e2
        go_wp2
        refine⟨⟨k+1,by omega,by rw[HD.out],?_,by rw[P3.out]⟩,?_⟩
        · rw[E2.out,o2.out];rfl
        · exact QCq B p1 p2
    · rw[hc] at hs
      simp only[Bool.false_eq_true,if_false,if_true] at hs
      rw[←hs] at o0
      cases hd:cK a b c (k+1)
      · rw[hd] at o0 e2
        have HC:=Lib.hid hc
        have HD:=Lib.hid hd
        have E2:=Lib.hid e2
        clear hs o1 hc hd e2
        go_wp2
        refine⟨⟨k+1,by omega,by rw[HD.out],?_,by rw[P3.out]⟩,?_⟩
        · rw[E2.out];rfl
        · exact QCq B p1 p2
      · rw[hd] at o0 e2
        have HC:=Lib.hid hc
        have HD:=Lib.hid hd
        have E2:=Lib.hid e2
        clear hs o1 hc hd e2
        go_wp2
        refine⟨⟨k+1,by omega,by rw[HD.out],?_,by rw[P3.out]⟩,?_⟩
        · rw[E2.out,o2.out];rfl
        · exact QCq B p1 p2
  · obtain rfl:k=8:=by omega
    go_wp2
    go_ret
    exact⟨rfl,rfl⟩
def Qh (zs:List Int):Nat→Int
 | 0=>0
 | k+1=>bits .or .u8 (Qh zs k) (zs.getD k 0)
theorem QJy (b off len cap:Nat)(zs:List Int)(w:World)(hz:len≤zs.length)(hbig:len≤100)(hc:∀ j,j < zs.length→w.cell? ⟨b,off+j,none⟩=some (.int .u8 (zs.getD j 0))) :
 Calls Tryz.prog 329 #[.slice (some ⟨b,off,none⟩) len cap] w fun e w'=>e=.returned (.int .u8 (Qh zs len))∧w=w':=by
 go_enter Tryz.func329,Tryz.ntmps329
 go_wp2
 go_loop [3,8] (fun t i=>∃ k:Nat,k≤len∧i=.int .i64 k∧t=.int .u8 (Qh zs k)) (fun _ i=>len-(intOf i).toNat)
 case atStart=>exact⟨0,Nat.zero_le _,rfl,rfl⟩
 case round =>
  obtain⟨k,hk,rfl,rfl⟩:=hrel
  by_cases hlt:k < len
  · have hk0:(0:Int)≤(k:Int):=by omega
    have hk1:(k:Int) < (len:Int):=by omega
    have hcell:=hc k (by omega)
    have hc:=Lib.hid hc
    go_wp2
    go_round
    case rel=>exact⟨k+1,by omega,by go_num,rfl⟩
    case measure=>simp[intOf];omega
  · obtain rfl:k=len:=by omega
    go_wp2
    go_ret
    exact⟨rfl,rfl⟩
abbrev two (r f:Int):Value:=.tuple #[.int .u8 r,.int .u8 f]
theorem QTa {w w':World} {A B:Nat} {u v:Value}(k:Below w.heap.size w w')(h:w.cell? ⟨A,0,none⟩=some u∧w.cell? ⟨B,0,none⟩=some v) :
 w'.cell? ⟨A,0,none⟩=some u∧w'.cell? ⟨B,0,none⟩=some v :=
 ⟨(k.cell (World.block_lt_of_cell? _ _ h.1)).trans h.1,(k.cell (World.block_lt_of_cell? _ _ h.2)).trans h.2⟩
theorem q8 (w:World)(v:Value)(t:TypeId):(w.alloc (.cells #[v] t)).cell? ⟨w.heap.size,0,none⟩=some v:=by
 have e:∀ o:Obj,(w.alloc o).heap[w.heap.size]?=some o:=fun o=>by
  show (w.heap.push _)[w.heap.size]?=_
  simp
 simp only[World.cell?,e];rfl
theorem cell_kept {w w':World} {p:Addr} {v:Value}(h:w.cell? p=some v)(k:Below w.heap.size w w'):w'.cell? p=some v :=
 (k.cell (World.block_lt_of_cell? _ _ h)).trans h
theorem Z9 (w:World)(o:Obj){p:Addr} {v:Value}(h:w.cell? p=some v):(w.alloc o).cell? p=some v :=
 cell_kept h (Below.alloc (Below.refl _ _) (Nat.le_refl _) _)
theorem QIA:∀ (x:Fin 256) (h v c:Bool),Qh [JD (x.val:Int),Qi h 16,Qi v 4,Qi c 1] 4=mkM (isM (x.val:Int) 7) ((x.val:Int)==0) (isM (x.val:Int) 5) h (isM (x.val:Int) 3) v false c:=by decide +kernel
theorem QQd (x:Int)(hx:B8 x)(h v c:Bool):Qh [JD x,Qi h 16,Qi v 4,Qi c 1] 4=mkM (isM x 7) (x==0) (isM x 5) h (isM x 3) v false c :=
 QI (P:=fun x=>Qh [JD x,Qi h 16,Qi v 4,Qi c 1] 4=mkM (isM x 7) (x==0) (isM x 5) h (isM x 3) v false c) (fun x=>QIA x h v c) x hx.1 hx.2
theorem QQw (a b:Int)(c:Bool)(ha:B8 a)(hb:B8 b) :
 Qh [JD (XW a b c),Qi (isM (zV a b c 8) 3) 16,Qi (!isM (zV a b c 8) 6==isM (zV a b c 8) 7) 4,Qi (isM (zV a b c 8) 7) 1] 4=XX a b c:=by
 obtain⟨e3,e6,e7⟩:=QQO a b c
 obtain⟨n4,n8,n7⟩:=QSI a b c ha hb
 change Qh [_,_,Qi (isM (zV a b c 8) 6 != isM (zV a b c 8) 7) 4,_] 4=_
 rw[QQd _ (QV a b c),e3,e6,e7,n7,n4,n8]
 rfl
theorem QQJ (w:World)(t:TypeId)(x0 x1 x2 x3:Int)(n:Nat×Nat):∀ j,j < [x0,x1,x2,x3].length→(w.alloc (.cells #[.int .u8 x0,.int .u8 x1,.int .u8 x2,.int .u8 x3] t n)).cell? ⟨w.heap.size,0+j,none⟩=some (.int .u8 ([x0,x1,x2,x3].getD j 0)):=by
 have e:∀ o:Obj,(w.alloc o).heap[w.heap.size]?=some o:=fun o=>by
  show (w.heap.push _)[w.heap.size]?=_
  simp
 intro j hj
 match j,hj with
 | 0,_=>simp only[World.cell?,Nat.zero_add,e];rfl
 | 1,_=>simp only[World.cell?,Nat.zero_add,e];rfl
 | 2,_=>simp only[World.cell?,Nat.zero_add,e];rfl
 | 3,_=>simp only[World.cell?,Nat.zero_add,e];rfl
theorem QQc (w:World)(t:TypeId)(x0 x1:Int)(n:Nat×Nat):∀ j,j < [x0,x1].length→(w.alloc (.cells #[.int .u8 x0,.int .u8 x1] t n)).cell? ⟨w.heap.size,0+j,none⟩=some (.int .u8 ([x0,x1].getD j 0)):=by
 have e:∀ o:Obj,(w.alloc o).heap[w.heap.size]?=some o:=fun o=>by
  show (w.heap.push _)[w.heap.size]?=_
  simp
 intro j hj
 match j,hj with
 | 0,_=>simp only[World.cell?,Nat.zero_add,e];rfl
 | 1,_=>simp only[World.cell?,Nat.zero_add,e];rfl
theorem QBR (a b:Int)(c:Bool)(ha:B8 a)(hb:B8 b)(w:World) :
 Calls Tryz.prog 303 #[.int .u8 a,.int .u8 b,.bool c] w fun e w'=>e=.returned (two (XW a b c) (XX a b c))∧Below w.heap.size w w':=by
 have hm:=Lib.hid (QQw a b c ha hb)
 have hr:=Lib.hid (QV a b c)
 have ho:=Lib.hid (QB5 a b c 8)
 have ha:=Lib.hid ha
 have hb:=Lib.hid hb
 have a0:=ha.out.1
 have a1:=ha.out.2
 have b0:=hb.out.1
 have b1:=hb.out.2
 go_enter Tryz.func303,Tryz.ntmps303
 go_wp2_with (first
  | (go_at_call 336;refine (QPH _ _ (by omega) (by omega) _).mono ?_;rintro e w' ⟨rfl,rfl⟩)
  | (go_at_call 337;refine (QI9 _ _ _ ha.out hb.out _).mono ?_;rintro e w' ⟨rfl,rfl⟩)
  | (go_at_call 274;refine (Xk _ _ ho.out.1 ho.out.2 _).mono ?_;rintro e w' ⟨rfl,rfl⟩)
  | (go_at_call 322;refine (jl _ (by omega) (by omega) _).mono ?_;rintro e w' ⟨rfl,rfl⟩)
  | (go_at_call 329;refine (QJy _ 0 4 4 [JD (XW a b c),Qi (isM (zV a b c 8) 3) 16,Qi (!isM (zV a b c 8) 6==isM (zV a b c 8) 7) 4,Qi (isM (zV a b c 8) 7) 1] _ (by simp) (by omega) (QQJ _ _ _ _ _ _ _)).mono ?_;rintro e w' ⟨rfl,rfl⟩))
 go_ret2
 exact⟨by rw[hm.out];rfl,(by repeat (first|exact Below.refl _ _|assumption|refine Jc ?_ (by assumption)|refine Below.drew ?_|refine Below.alloc ?_ (by first|(simp;done)|(simp;omega)|omega) _|refine Below.setCell ?_ (by first|(simp;done)|(simp;omega)|omega) _))⟩
theorem QOK (x y:Bool)(w:World) :
 Calls Tryz.prog 343 #[.bool x,.bool y] w fun e w'=>e=.returned (.bool (QLf x y))∧w=w':=by
 cases x
 all_goals
  go_enter Tryz.func343,Tryz.ntmps343
  go_wp2
  go_ret
  exact⟨rfl,rfl⟩
theorem QQC (x y:Bool)(w:World) :
 Calls Tryz.prog 345 #[.bool x,.bool y] w fun e w'=>e=.returned (.bool (orB x y))∧w=w':=by
 cases x
 all_goals
  go_enter Tryz.func345,Tryz.ntmps345
  go_wp2
  go_ret
  exact⟨rfl,rfl⟩
theorem QOT (x y:Bool)(w:World) :
 Calls Tryz.prog 344 #[.bool x,.bool y] w fun e w'=>e=.returned (.bool (QGp x y))∧w=w':=by
 go_enter Tryz.func344,Tryz.ntmps344
 go_wp2
 go_ret
 exact⟨rfl,rfl⟩
theorem QIo (a b:Int)(ha:B8 a)(hB:B8 b)(w:World) :
 Calls Tryz.prog 342 #[.int .u8 a,.int .u8 b,.func (.func 343) #[] #[]] w fun e w'=>e=.returned (.int .u8 (zB a b))∧Below w.heap.size w w':=by
 go_enter Tryz.func342,Tryz.ntmps342
 go_wp2
 refine wp_loop_rounds 9 ?_
 iterate 9 (rw[rounds_succ];go_wp2_with (first
  | (go_at_call 274;refine (Xk _ _ (B8.lo (by assumption)) (B8.hi (by assumption)) _).mono ?_;rintro e w' ⟨rfl,rfl⟩)
  | (go_at_call 343;refine (QOK _ _ _).mono ?_;rintro e w' ⟨rfl,rfl⟩)
  | (go_at_call 227;refine (Xc _ _ _ (B8.lo (by repeat (first|exact B8.zero|apply B8.with))) (B8.hi (by repeat (first|exact B8.zero|apply B8.with))) _).mono ?_;rintro e w' ⟨rfl,rfl⟩)))
 go_ret
 exact⟨Qo (QJV _ _ _ _ _ _ _ _),(by repeat (first|exact Below.refl _ _|assumption|refine Jc ?_ (by assumption)|refine Below.drew ?_|refine Below.alloc ?_ (by first|(simp;done)|(simp;omega)|omega) _|refine Below.setCell ?_ (by first|(simp;done)|(simp;omega)|omega) _))⟩
theorem QJF (a b:Int)(ha:B8 a)(hB:B8 b)(w:World) :
 Calls Tryz.prog 342 #[.int .u8 a,.int .u8 b,.func (.func 345) #[] #[]] w fun e w'=>e=.returned (.int .u8 (orR a b))∧Below w.heap.size w w':=by
 go_enter Tryz.func342,Tryz.ntmps342
 go_wp2
 refine wp_loop_rounds 9 ?_
 iterate 9 (rw[rounds_succ];go_wp2_with (first
  | (go_at_call 274;refine (Xk _ _ (B8.lo (by assumption)) (B8.hi (by assumption)) _).mono ?_;rintro e w' ⟨rfl,rfl⟩)
  | (go_at_call 345;refine (QQC _ _ _).mono ?_;rintro e w' ⟨rfl,rfl⟩)
  | (go_at_call 227;refine (Xc _ _ _ (B8.lo (by repeat (first|exact B8.zero|apply B8.with))) (B8.hi (by repeat (first|exact B8.zero|apply B8.with))) _).mono ?_;rintro e w' ⟨rfl,rfl⟩)))
 go_ret
 exact⟨Qo (QJV _ _ _ _ _ _ _ _),(by repeat (first|exact Below.refl _ _|assumption|refine Jc ?_ (by assumption)|refine Below.drew ?_|refine Below.alloc ?_ (by first|(simp;done)|(simp;omega)|omega) _|refine Below.setCell ?_ (by first|(simp;done)|(simp;omega)|omega) _))⟩
theorem QIR (a b:Int)(ha:B8 a)(hB:B8 b)(w:World) :
 Calls Tryz.prog 342 #[.int .u8 a,.int .u8 b,.func (.func 344) #[] #[]] w fun e w'=>e=.returned (.int .u8 (jB a b))∧Below w.heap.size w w':=by
 go_enter Tryz.func342,Tryz.ntmps342
 go_wp2
 refine wp_loop_rounds 9 ?_
 iterate 9 (rw[rounds_succ];go_wp2_with (first
  | (go_at_call 274;refine (Xk _ _ (B8.lo (by assumption)) (B8.hi (by assumption)) _).mono ?_;rintro e w' ⟨rfl,rfl⟩)
  | (go_at_call 344;refine (QOT _ _ _).mono ?_;rintro e w' ⟨rfl,rfl⟩)
  | (go_at_call 227;refine (Xc _ _ _ (B8.lo (by repeat (first|exact B8.zero|apply B8.with))) (B8.hi (by repeat (first|exact B8.zero|apply B8.with))) _).mono ?_;rintro e w' ⟨rfl,rfl⟩)))
 go_ret
 exact⟨Qo (QJV _ _ _ _ _ _ _ _),(by repeat (first|exact Below.refl _ _|assumption|refine Jc ?_ (by assumption)|refine Below.drew ?_|refine Below.alloc ?_ (by first|(simp;done)|(simp;omega)|omega) _|refine Below.setCell ?_ (by first|(simp;done)|(simp;omega)|omega) _))⟩
theorem QR7 (a b:Int)(ha:B8 a)(hB:B8 b)(w:World) :
 Calls Tryz.prog 311 #[.int .u8 a,.int .u8 b] w fun e w'=>e=.returned (two (zB a b) (zN (zB a b)))∧Below w.heap.size w w':=by
 have hr:B8 (zB a b):=J7 ..
 have hm:=Lib.hid (QNl _ hr)
 go_enter Tryz.func311,Tryz.ntmps311
 go_wp2_with (first
  | (go_at_call 342;refine (QIo _ _ (by assumption) (by assumption) _).mono ?_;rintro e w' ⟨rfl,hb⟩;have hsz:=hb.size)
  | (go_at_call 270;refine (Zf _ (B8.lo (by assumption)) (B8.hi (by assumption)) _).mono ?_;rintro e w' ⟨rfl,hb⟩;have hsz:=hb.size))
 go_ret2
 exact⟨by rw[hm.out];rfl,(by repeat (first|exact Below.refl _ _|assumption|refine Jc ?_ (by assumption)|refine Below.drew ?_|refine Below.alloc ?_ (by first|(simp;done)|(simp;omega)|omega) _|refine Below.setCell ?_ (by first|(simp;done)|(simp;omega)|omega) _))⟩
theorem QT3 (a b:Int)(ha:B8 a)(hB:B8 b)(w:World) :
 Calls Tryz.prog 313 #[.int .u8 a,.int .u8 b] w fun e w'=>e=.returned (two (orR a b) (Js (orR a b)))∧Below w.heap.size w w':=by
 have hr:B8 (orR a b):=J7 ..
 go_enter Tryz.func313,Tryz.ntmps313
 go_wp2_with (first
  | (go_at_call 342;refine (QJF _ _ (by assumption) (by assumption) _).mono ?_;rintro e w' ⟨rfl,hb⟩;have hsz:=hb.size)
  | (go_at_call 270;refine (Zf _ (B8.lo (by assumption)) (B8.hi (by assumption)) _).mono ?_;rintro e w' ⟨rfl,hb⟩;have hsz:=hb.size))
 go_ret2
 exact⟨rfl,(by repeat (first|exact Below.refl _ _|assumption|refine Jc ?_ (by assumption)|refine Below.drew ?_|refine Below.alloc ?_ (by first|(simp;done)|(simp;omega)|omega) _|refine Below.setCell ?_ (by first|(simp;done)|(simp;omega)|omega) _))⟩
theorem QRm (a b:Int)(ha:B8 a)(hB:B8 b)(w:World) :
 Calls Tryz.prog 312 #[.int .u8 a,.int .u8 b] w fun e w'=>e=.returned (two (jB a b) (Js (jB a b)))∧Below w.heap.size w w':=by
 have hr:B8 (jB a b):=J7 ..
 go_enter Tryz.func312,Tryz.ntmps312
 go_wp2_with (first
  | (go_at_call 342;refine (QIR _ _ (by assumption) (by assumption) _).mono ?_;rintro e w' ⟨rfl,hb⟩;have hsz:=hb.size)
  | (go_at_call 270;refine (Zf _ (B8.lo (by assumption)) (B8.hi (by assumption)) _).mono ?_;rintro e w' ⟨rfl,hb⟩;have hsz:=hb.size))
 go_ret2
 exact⟨rfl,(by repeat (first|exact Below.refl _ _|assumption|refine Jc ?_ (by assumption)|refine Below.drew ?_|refine Below.alloc ?_ (by first|(simp;done)|(simp;omega)|omega) _|refine Below.setCell ?_ (by first|(simp;done)|(simp;omega)|omega) _))⟩
theorem QDN (b f:Int)(hb:B8 b)(hf:B8 f)(w:World) :
 Calls Tryz.prog 339 #[.int .u8 b,.int .u8 f] w fun e w'=>e=.returned (.int .u8 (Xo (JD b) f 196))∧w=w':=by
 have hr:=QD b
 go_enter Tryz.func339,Tryz.ntmps339
 go_wp2_with (first
  | (go_at_call 322;refine (jl _ (B8.lo (by assumption)) (B8.hi (by assumption)) _).mono ?_;rintro e w' ⟨rfl,rfl⟩)
  | (go_at_call 273;refine (ZV _ _ _ (B8.lo (by assumption)) (B8.hi (by assumption)) (B8.lo (by assumption)) (B8.hi (by assumption)) (by omega) (by omega) _).mono ?_;rintro e w' ⟨rfl,rfl⟩))
 go_ret
 exact⟨rfl,rfl⟩
theorem QOU:∀ x:Fin 256,bits .xor .u8 IntKind.u8.max (x.val:Int)=255-(x.val:Int):=by decide +kernel
theorem QVj (b:Int)(hb:B8 b):bits .xor .u8 IntKind.u8.max b=255-b :=
 QI (P:=fun b=>bits .xor .u8 IntKind.u8.max b=255-b) QOU b hb.1 hb.2
theorem QR8 (a f:Int)(ha:B8 a)(hf:B8 f)(w:World) :
 Calls Tryz.prog 305 #[.int .u8 a,.int .u8 f] w fun e w'=>e=.returned (two (255-a) (QFL a f))∧w=w':=by
 have hr:B8 (255-a):=⟨by have:=ha.2;omega,by have:=ha.1;omega⟩
 have hx:=QVj a ha
 have hm:=Lib.hid (QQo a f hf)
 go_enter Tryz.func305,Tryz.ntmps305
 go_wp2_with (first
  | (go_at_call 339;refine (QDN _ _ (by assumption) (by assumption) _).mono ?_;rintro e w' ⟨rfl,rfl⟩))
 go_ret2
 exact⟨by rw[←hm.out];rfl,rfl⟩
theorem QMN (a f:Int)(ha:B8 a)(hf:B8 f)(w:World) :
 Calls Tryz.prog 306 #[.int .u8 a,.int .u8 f] w fun e w'=>e=.returned (.int .u8 (QDo a f))∧w=w':=by
 have hm:=Lib.hid (QPn a f)
 go_enter Tryz.func306,Tryz.ntmps306
 go_wp2_with (first
  | (go_at_call 339;refine (QDN _ _ (by assumption) (by assumption) _).mono ?_;rintro e w' ⟨rfl,rfl⟩))
 go_ret
 exact⟨Qo hm.out,rfl⟩
theorem QR3 (a f:Int)(ha:B8 a)(hf:B8 f)(w:World) :
 Calls Tryz.prog 307 #[.int .u8 a,.int .u8 f] w fun e w'=>e=.returned (.int .u8 (QDO a f))∧w=w':=by
 have k:=QAp f hf
 cases hc:isM f 0
 · have hm:=Lib.hid (QUp a f hc)
   have k0:bits .and .u8 f 1=0:=by rw[k,hc];rfl
   clear k hc
   go_enter Tryz.func307,Tryz.ntmps307
   go_wp2_with (first
    | (go_at_call 306;refine (QMN _ _ (by assumption) (by assumption) _).mono ?_;rintro e w' ⟨rfl,rfl⟩))
   go_ret
   exact⟨Qo hm.out,rfl⟩
 · have hm:=Lib.hid (QR2 a f hc)
   have k0:bits .and .u8 f 1=1:=by rw[k,hc];rfl
   clear k hc
   go_enter Tryz.func307,Tryz.ntmps307
   go_wp2_with (first
    | (go_at_call 339;refine (QDN _ _ (by assumption) (by assumption) _).mono ?_;rintro e w' ⟨rfl,rfl⟩))
   go_ret
   exact⟨Qo hm.out,rfl⟩
section
def Digits (w:World):Prop:=w.cell? ⟨3,0,none⟩=some (.int .u8 16)∧w.cell? ⟨3,1,none⟩=some (.int .u8 15)∧w.cell? ⟨3,2,none⟩=some (.int .u8 9)∧w.cell? ⟨3,3,none⟩=some (.int .u8 6)∧w.cell? ⟨3,4,none⟩=some (.int .u8 1)∧w.cell? ⟨3,5,none⟩=some (.int .u8 255)∧w.cell? ⟨3,6,none⟩=some (.int .u8 153)∧w.cell? ⟨3,7,none⟩=some (.int .u8 96)
theorem Digits.below {w w':World}(h:Digits w)(k:Below w.heap.size w w'):Digits w':=by
 obtain⟨h0,h1,h2,h3,h4,h5,h6,h7⟩:=h
 exact⟨(k.cell (World.block_lt_of_cell? _ _ h0)).trans h0,(k.cell (World.block_lt_of_cell? _ _ h1)).trans h1,(k.cell (World.block_lt_of_cell? _ _ h2)).trans h2,(k.cell (World.block_lt_of_cell? _ _ h3)).trans h3,(k.cell (World.block_lt_of_cell? _ _ h4)).trans h4,(k.cell (World.block_lt_of_cell? _ _ h5)).trans h5,(k.cell (World.block_lt_of_cell? _ _ h6)).trans h6,(k.cell (World.block_lt_of_cell? _ _ h7)).trans h7⟩
theorem QCB {P:Program} {t e:TypeId} {n m:Nat} {fs:Array Field} {cs:Array Value} {k:IntKind} {i:Int} {w:World}(h:P.underlying t=some (.array n e))(he:P.underlying e=some (.struct fs))(hs:(sizeOf e).run P w=.ok m w)(hi:0≤i∧i < n) :
 (Instr.index t (.agg cs) (.int k i)).run P w=.ok (.agg (cs.extract (i.toNat*m) (i.toNat*m+m))) w:=by
 simp[Instr.index,asIntOf,run_underlying h,hi,hs,part,isAgg,run_underlying he]
theorem QVw (a0 a1 a2 a3 a4 a5 a6 a7:Value)(w:World):(Instr.index 246 (.agg #[a0,a1,a2,a3,a4,a5,a6,a7]) (.int .i64 0)).run Tryz.prog w=.ok (.agg #[a0,a1,a2,a3]) w :=
 QCB (m:=4) Tryz.underlying246 Tryz.underlying245 (by kernel_rfl) (by decide)
theorem QVp (a0 a1 a2 a3 a4 a5 a6 a7:Value)(w:World):(Instr.index 246 (.agg #[a0,a1,a2,a3,a4,a5,a6,a7]) (.int .i64 1)).run Tryz.prog w=.ok (.agg #[a4,a5,a6,a7]) w :=
 QCB (m:=4) Tryz.underlying246 Tryz.underlying245 (by kernel_rfl) (by decide)
attribute [local go_sem ↓] QVw QVp
theorem QOv:∀ x:Fin 256,bits .and .u8 (x.val:Int) 16=(if isM (x.val:Int) 4 then 16 else 0)∧bits .and .u8 (x.val:Int) 1=(if isM (x.val:Int) 0 then 1 else 0)∧bits .and .u8 (x.val:Int) 15=(x.val:Int)%16∧bits .and .u8 (x.val:Int) 255=(x.val:Int)∧bits .and .u8 (x.val:Int) 2=(if isM (x.val:Int) 1 then 2 else 0):=by decide +kernel
theorem QBG (f:Int)(h:B8 f):bits .and .u8 f 16=(if isM f 4 then 16 else 0)∧bits .and .u8 f 1=(if isM f 0 then 1 else 0)∧bits .and .u8 f 15=f%16∧bits .and .u8 f 255=f∧bits .and .u8 f 2=(if isM f 1 then 2 else 0) :=
 QI (P:=fun f=>bits .and .u8 f 16=(if isM f 4 then 16 else 0)∧bits .and .u8 f 1=(if isM f 0 then 1 else 0)∧bits .and .u8 f 15=f%16∧bits .and .u8 f 255=f∧bits .and .u8 f 2=(if isM f 1 then 2 else 0)) QOv f h.1 h.2
def QGA (a f:Int):Int:=(if QFF a f then 16 else 0)+(if QAU a f then 1 else 0)
theorem QV6:bits .or .u8 0 16=16∧bits .or .u8 16 1=17∧bits .or .u8 0 1=1:=by decide +kernel
theorem QEB (a f:Int)(ha:B8 a)(hf:B8 f)(w:World)(hd:Digits w) :
 Calls Tryz.prog 338 #[.int .u8 a,.int .u8 f] w fun e w'=>e=.returned (two (byM a f) (QGA a f))∧Below w.heap.size w w':=by
 obtain⟨d0,d1,d2,d3,d4,d5,d6,d7⟩:=hd
 obtain⟨k1,k2,_,_,_⟩:=QBG f hf
 obtain⟨_,_,k3,k4,_⟩:=QBG a ha
 obtain⟨o1,o2,o3⟩:=QV6
 have a0:=ha.1
 have a1:=ha.2
 by_cases c2:9 < a%16<;>by_cases c4:153 < a<;>cases c1:isM f 4<;>cases c3:isM f 0
 all_goals
  rw[c1] at k1
  rw[c3] at k2
  simp only[if_true,if_false,Bool.false_eq_true] at k1 k2
  have hb:byM a f=(if isM f 4||decide (9 < a%16) then 6 else 0)+(if isM f 0||decide (153 < a) then 96 else 0):=rfl
  have hw:QGA a f=(if isM f 4||decide (9 < a%16) then 16 else 0)+(if isM f 0||decide (153 < a) then 1 else 0):=rfl
  first|rw[c1,c3,decide_eq_true c2,decide_eq_true c4] at hb hw|rw[c1,c3,decide_eq_true c2,decide_eq_false c4] at hb hw|rw[c1,c3,decide_eq_false c2,decide_eq_true c4] at hb hw|rw[c1,c3,decide_eq_false c2,decide_eq_false c4] at hb hw
  have hb:=Lib.hid hb
  have hw:=Lib.hid hw
  clear c1 c3
  go_enter Tryz.func338,Tryz.ntmps338
  go_wp2
  refine wp_loop_rounds 3 ?_
  iterate 3 (rw[rounds_succ];go_wp2)
  go_ret2
  exact⟨by rw[hb.out,hw.out];rfl,(by repeat (first|exact Below.refl _ _|assumption|refine Jc ?_ (by assumption)|refine Below.drew ?_|refine Below.alloc ?_ (by first|(simp;done)|(simp;omega)|omega) _|refine Below.setCell ?_ (by first|(simp;done)|(simp;omega)|omega) _))⟩
theorem QPZ:∀ b0 b1 b2 b4 b5 n h c:Bool,bits .or .u8 (bits .or .u8 (bits .or .u8 (mkM b0 b1 b2 false b4 b5 false false) (if n then 2 else 0)) (if h then 16 else 0)) (if c then 1 else 0)=mkM b0 b1 b2 h b4 b5 n c:=by decide +kernel
theorem QN9 (a f:Int):bits .and .u8 (QGA a f) 1=if QAU a f then 1 else 0:=by
 unfold QGA
 generalize QFF a f=x
 generalize QAU a f=y
 revert x y
 decide +kernel
theorem QPt (a f:Int)(ha:B8 a)(hf:B8 f) :
 bits .or .u8 (bits .or .u8 (bits .or .u8 (Js (Xq a f)) (bits .and .u8 f 2)) (bits .and .u8 (bits .xor .u8 a (Xq a f)) 16)) (bits .and .u8 (QGA a f) 1)=QEK a f:=by
 have hr:=jq a f
 have hx:=QKX a (Xq a f) ha.1 ha.2 hr.1 hr.2
 rw[(QBG f hf).2.2.2.2,(QBG _ hx).1,QN9]
 have i:=QL8 a (Xq a f) 4 (by omega) ha.1 ha.2 hr.1 hr.2
 rw[show isM (bits .xor .u8 a (Xq a f)) 4=(isM a 4 != isM (Xq a f) 4) from by simpa using i]
 exact QPZ _ _ _ _ _ _ _ _
theorem QRp (a f:Int)(ha:B8 a)(hf:B8 f)(w:World)(hd:Digits w) :
 Calls Tryz.prog 304 #[.int .u8 a,.int .u8 f] w fun e w'=>e=.returned (two (Xq a f) (QEK a f))∧Below w.heap.size w w':=by
 have hm:=QPt a f ha hf
 have hr:=jq a f
 have hy:=QOh a f
 have k:=(QBG f hf).2.2.2.2
 have a0:=ha.1
 have a1:=ha.2
 cases c:isM f 1
 · have e:Xq a f=(a+byM a f)%256:=by unfold Xq;rw[c];rfl
   rw[c] at k
   simp only[if_false,Bool.false_eq_true] at k
   rw[k,e] at hm
   rw[e] at hr ⊢
   have hm:=Lib.hid hm
   clear e c
   go_enter Tryz.func304,Tryz.ntmps304
   go_wp2_with (first
    | (go_at_call 338;refine (QEB _ _ (by assumption) (by assumption) _ hd).mono ?_;rintro e w' ⟨rfl,hb⟩;have hsz:=hb.size)
    | (go_at_call 270;refine (Zf _ (B8.lo (by assumption)) (B8.hi (by assumption)) _).mono ?_;rintro e w' ⟨rfl,hb⟩;have hsz:=hb.size))
   go_ret2
   exact⟨by rw[←hm.out];rfl,(by repeat (first|exact Below.refl _ _|assumption|refine Jc ?_ (by assumption)|refine Below.drew ?_|refine Below.alloc ?_ (by first|(simp;done)|(simp;omega)|omega) _|refine Below.setCell ?_ (by first|(simp;done)|(simp;omega)|omega) _))⟩
 · have e:Xq a f=(a-byM a f)%256:=by unfold Xq;rw[c];rfl
   rw[c] at k
   simp only[if_true] at k
   rw[k,e] at hm
   rw[e] at hr ⊢
   have hm:=Lib.hid hm
   clear e c
   go_enter Tryz.func304,Tryz.ntmps304
   go_wp2_with (first
    | (go_at_call 338;refine (QEB _ _ (by assumption) (by assumption) _ hd).mono ?_;rintro e w' ⟨rfl,hb⟩;have hsz:=hb.size)
    | (go_at_call 270;refine (Zf _ (B8.lo (by assumption)) (B8.hi (by assumption)) _).mono ?_;rintro e w' ⟨rfl,hb⟩;have hsz:=hb.size))
   go_ret2
   exact⟨by rw[←hm.out];rfl,(by repeat (first|exact Below.refl _ _|assumption|refine Jc ?_ (by assumption)|refine Below.drew ?_|refine Below.alloc ?_ (by first|(simp;done)|(simp;omega)|omega) _|refine Below.setCell ?_ (by first|(simp;done)|(simp;omega)|omega) _))⟩
end
theorem QIl (W:World)(o o':Obj):({ W.alloc o with heap:=(W.alloc o).heap.setIfInBounds W.heap.size o' }:World)=W.alloc o':=by
 have e:(W.heap.push o).setIfInBounds W.heap.size o'=W.heap.push o':=by
  apply Array.ext
  · simp
  · intro i h1 h2
    simp at h1 h2
    by_cases hi:i=W.heap.size
    · subst hi;simp
    · rw[Array.getElem_setIfInBounds,Array.getElem_push_lt (by omega),Array.getElem_push_lt (by omega),if_neg (by omega)]
      simpa using h1
 show ({ W with heap:=(W.heap.push o).setIfInBounds W.heap.size o' }:World)={ W with heap:=W.heap.push o' }
 rw[e]
theorem Jq {P:Program}(W:World)(t kt et:TypeId)(ht:P.underlying t=some (.map kt et))(hk:P.underlying kt=some (.int .i64))(es:List MapEntry)(clock:Nat)(n:Int)(val:Value)(b:Nat)
 (hb:b=W.heap.size)(hnew:Instr.findNow (.int .i64) (.int .i64 n) es 0=some none) :
 (Instr.mapUpdate t (.map (some b)) (.int .i64 n) val).run P (W.alloc (.map es.toArray clock))=.ok () (W.alloc (.map (es++[({ key:=.int .i64 n,val:=val,born:=clock }:MapEntry)]).toArray (clock+1))):=by
 subst hb
 have hb:=(MapKept.heap_alloc W (.map es.toArray clock)).1
 simp[Instr.mapUpdate,run_underlying ht,MapKept.run_getObj_map hb,MapKept.run_checkKey hk (k:=.int .i64 n) (by simp[MapKept.IsKey]) false 9999,MapKept.run_findKey hk hnew,MapKept.run_setObj_map _ hb,Result.andThen]
 exact QIl W _ _
theorem QY {P:Program} {W:World} {t kt et:TypeId}(ht:P.underlying t=some (.map kt et))(hk:P.underlying kt=some (.int .i64)){es:Array MapEntry} {clock M:Nat}(hb:W.heap[M]?=some (.map es clock)){n:Int} {j:Nat} {v:Value}
 (hf:Instr.findNow (.int .i64) (.int .i64 n) es.toList 0=some (some (j,v))):(Instr.lookup t (.map (some M)) (.int .i64 n) true).run P W=.ok (.tuple #[v,.bool true]) W:=by
 simp[Instr.lookup,run_underlying ht,MapKept.run_getObj_map hb,MapKept.run_checkKey hk (k:=.int .i64 n) (by simp[MapKept.IsKey]) _ 9999,MapKept.run_findKey hk hf,Result.andThen]
theorem zm {P:Program} {W:World} {t kt et:TypeId}(ht:P.underlying t=some (.map kt et))(hk:P.underlying kt=some (.int .i64)){es:Array MapEntry} {clock M:Nat}(hb:W.heap[M]?=some (.map es clock)){n:Int} {z:Value}
 (hf:Instr.findNow (.int .i64) (.int .i64 n) es.toList 0=some none)(hz:(zeroValue et).run P W=.ok z W):(Instr.lookup t (.map (some M)) (.int .i64 n) true).run P W=.ok (.tuple #[z,.bool false]) W:=by
 simp[Instr.lookup,run_underlying ht,MapKept.run_getObj_map hb,MapKept.run_checkKey hk (k:=.int .i64 n) (by simp[MapKept.IsKey]) _ 9999,MapKept.run_findKey hk hf,hz,Result.andThen]
end Go.Proofs.YtkgaeamdhhceiaaGreatDoor
