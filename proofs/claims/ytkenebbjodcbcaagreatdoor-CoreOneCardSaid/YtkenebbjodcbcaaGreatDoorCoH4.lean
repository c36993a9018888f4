/- Contracts and facts that the claim's proof wants (several texts in one). -/
import Derived.Deep.RegionHeld3
import Derived.Laws.EntriesVeiled
import Derived.Maps.Own
import Derived.Test.YtkenebbjodcbcaaGreatDoorCoH3
namespace Go.Proofs.YtkenebbjodcbcaaGreatDoor
open Go.RowKit
set_option linter.unusedVariables false
set_option linter.unusedSimpArgs false
set_option maxRecDepth 20000
set_option maxHeartbeats 20000000
section
variable {P:Program} {a:Act} {o:Oper} {x y:Operand} {V W R:Value}
theorem XZ (ho:o.op=.move x∨o.op=.assign x)(hx:a.eval x=V)(w:World):(execOp a.eval o).run P w=.ok (.value V) w:=by
 unfold execOp
 rcases ho with ho|ho<;>simp only[ho,hx,Sem.run_pure]
theorem QCC {ad:Addr}(ho:o.op=.nilCheck x)(hx:a.eval x=.pointer (some ad))(w:World):(execOp a.eval o).run P w=.ok (.value (.pointer (some ad))) w:=by
 unfold execOp
 simp only[ho,hx,Sem.run_pure]
theorem ZL {t:TypeId} {f:Nat}(ho:o.op=.fieldAddr t x f)(hx:a.eval x=V)(hf:∀ w,(Instr.fieldAt t V f).run P w=.ok R w)(w:World):(execOp a.eval o).run P w=.ok (.value R) w:=by
 unfold execOp
 simp only[ho,hx,Sem.run_bind,Sem.run_pure,hf,Result.andThen_ok]
theorem jC {t:TypeId} {ad:Addr} {w:World}(ho:o.op=.load t x)(hx:a.eval x=.pointer (some ad))(hl:(Instr.loadAt t (.pointer (some ad))).run P w=.ok V w):(execOp a.eval o).run P w=.ok (.value V) w:=by
 unfold execOp
 simp only[ho,hx,Sem.run_bind,Sem.run_pure,hl,Result.andThen_ok]
theorem Qy {t:TypeId} {ad:Addr} {w w':World}(ho:o.op=.store t x y)(hx:a.eval x=.pointer (some ad))(hy:a.eval y=V)(hl:(Instr.storeAt t (.pointer (some ad)) V).run P w=.ok () w'):(execOp a.eval o).run P w=.ok .skip w':=by
 unfold execOp
 simp only[ho,hx,hy,Sem.run_bind,Sem.run_pure,hl,Result.andThen_ok]
theorem QDC {op:BinOp} {t r:TypeId}(ho:o.op=.binOp op t x y r)(hx:a.eval x=V)(hy:a.eval y=W)(hg:∀ w,(eqGuard op t x y V W).run P w=.ok () w)(hb:∀ w,(binOp op t V W).run P w=.ok R w)(w:World):(execOp a.eval o).run P w=.ok (.value R) w:=by
 unfold execOp
 simp only[ho,hx,hy,Sem.run_bind,Sem.run_pure,hg,hb,Result.andThen_ok]
theorem heUn {op:UnOp} {t:TypeId}(ho:o.op=.unOp op t x)(hx:a.eval x=V)(hb:∀ w,(Op.unary op V).run P w=.ok R w)(w:World):(execOp a.eval o).run P w=.ok (.value R) w:=by
 unfold execOp
 simp only[ho,hx,Sem.run_bind,Sem.run_pure,hb,Result.andThen_ok]
theorem QSr {c:Operand} {b:Bool}(ho:o.op=.pick c x y)(hc:a.eval c=.bool b)(hv:(if b=true then a.eval x else a.eval y)=V)(w:World):(execOp a.eval o).run P w=.ok (.value V) w:=by
 unfold execOp
 simp only[ho,hc,←hv,asBool,Sem.run_bind,Sem.run_pure,Result.andThen_ok]
theorem QHS {t:TypeId} {parts:Array (Nat×Operand)} {cells:Array Value}(ho:o.op=.build t parts)(hc:P.built t (parts.map fun (i,x)=>(i,a.eval x)).toList=some cells)(w:World):(execOp a.eval o).run P w=.ok (.value (.agg cells)) w:=by
 unfold execOp
 simp only[ho,Sem.run_bind,run_build w t _ cells hc,Result.andThen_ok,Sem.run_pure]
theorem XB {i:Nat} {vs:Array Value}(ho:o.op=.extract x i)(hx:a.eval x=.tuple vs)(hi:vs[i]? = some V)(w:World):(execOp a.eval o).run P w=.ok (.value V) w:=by
 unfold execOp
 simp[ho,hx,Instr.extract,hi]
theorem QLc {t:TypeId} {w:World}(ho:o.op=.indexAddr t x y)(hx:a.eval x=V)(hy:a.eval y=W)(hl:(Instr.indexAt t V W).run P w=.ok R w):(execOp a.eval o).run P w=.ok (.value R) w:=by
 unfold execOp
 simp only[ho,hx,hy,Sem.run_bind,Sem.run_pure,hl,Result.andThen_ok]
end
theorem ld8 {w:World} {ad:Addr} {V:Value}(h:w.cell? ad=some V):(Instr.loadAt 5 (.pointer (some ad))).run Tryz.prog w=.ok V w:=by simp[go_sem,h]
theorem QMM {w:World} {ad:Addr} {V:Value}(h:w.cell? ad=some V):(Instr.loadAt 22 (.pointer (some ad))).run Tryz.prog w=.ok V w:=by simp[go_sem,h]
theorem ldI {w:World} {ad:Addr} {V:Value}(h:w.cell? ad=some V):(Instr.loadAt 3 (.pointer (some ad))).run Tryz.prog w=.ok V w:=by simp[go_sem,h]
theorem ldB {w:World} {ad:Addr} {V:Value}(h:w.cell? ad=some V):(Instr.loadAt 4 (.pointer (some ad))).run Tryz.prog w=.ok V w:=by simp[go_sem,h]
theorem ldS {w:World} {ad:Addr} {V:Value}(h:w.cell? ad=some V):(Instr.loadAt 26 (.pointer (some ad))).run Tryz.prog w=.ok V w:=by simp[go_sem,h]
theorem st8 {w:World} {ad:Addr} {V:Value} {v:Int}(h:w.cell? ad=some V)(hz:w.frozen? ad=false):(Instr.storeAt 5 (.pointer (some ad)) (.int .u8 v)).run Tryz.prog w=.ok () (w.setCell ad (.int .u8 v)):=by simp[go_sem,h,hz]
theorem QMV {w:World} {ad:Addr} {V:Value} {v:Int}(h:w.cell? ad=some V)(hz:w.frozen? ad=false):(Instr.storeAt 22 (.pointer (some ad)) (.int .u16 v)).run Tryz.prog w=.ok () (w.setCell ad (.int .u16 v)):=by simp[go_sem,h,hz]
theorem stI {w:World} {ad:Addr} {V:Value} {v:Int}(h:w.cell? ad=some V)(hz:w.frozen? ad=false):(Instr.storeAt 3 (.pointer (some ad)) (.int .i64 v)).run Tryz.prog w=.ok () (w.setCell ad (.int .i64 v)):=by simp[go_sem,h,hz]
theorem stB {w:World} {ad:Addr} {V:Value} {v:Bool}(h:w.cell? ad=some V)(hz:w.frozen? ad=false):(Instr.storeAt 4 (.pointer (some ad)) (.bool v)).run Tryz.prog w=.ok () (w.setCell ad (.bool v)):=by simp[go_sem,h,hz]
theorem QJh:(Tryz.prog.info? 24).map (·.size)=some 20:=by kernel_rfl
theorem ldR {w:World} {b o:Nat} {g:Rg}(h:w.rangeAt b o (JJ g).toList):(Instr.loadAt 24 (.pointer (some ⟨b,o,none⟩))).run Tryz.prog w=.ok (JH g) w :=
 run_loadAt_mid w b o 24 (JJ g).toList _ h Tryz.underlying24 rfl QJh
theorem stR {w:World} {b o:Nat} {g:Rg}(h:w.there b o (JJ g).size):(Instr.storeAt 24 (.pointer (some ⟨b,o,none⟩)) (JH g)).run Tryz.prog w=.ok () (w.setCells b o (JJ g).toList) :=
 run_storeAt_mid w b o 24 (JJ g) h QJh (by simp[JJ,Value.oneCell'])
theorem egI (op:BinOp)(x y:Operand)(a b:Int)(w:World):(eqGuard op 3 x y (.int .i64 a) (.int .i64 b)).run Tryz.prog w=.ok () w:=by simp[go_sem]
theorem eg8 (op:BinOp)(x y:Operand)(a b:Int)(w:World):(eqGuard op 5 x y (.int .u8 a) (.int .u8 b)).run Tryz.prog w=.ok () w:=by simp[go_sem]
theorem eg16 (op:BinOp)(x y:Operand)(a b:Int)(w:World):(eqGuard op 22 x y (.int .u16 a) (.int .u16 b)).run Tryz.prog w=.ok () w:=by simp[go_sem]
theorem ZP (x y:Int)(w:World):(binOp .eql 3 (.int .i64 x) (.int .i64 y)).run Tryz.prog w=.ok (.bool (x==y)) w:=by simp[go_sem]
theorem QPq (x y:Int)(w:World):(binOp .neq 3 (.int .i64 x) (.int .i64 y)).run Tryz.prog w=.ok (.bool (x != y)) w:=by simp[go_sem,bne]
theorem QBq (x y:Int)(w:World):(binOp .eql 5 (.int .u8 x) (.int .u8 y)).run Tryz.prog w=.ok (.bool (x==y)) w:=by simp[go_sem]
theorem bLtI (x y:Int)(w:World):(binOp .lss 3 (.int .i64 x) (.int .i64 y)).run Tryz.prog w=.ok (.bool (decide (x < y))) w:=by simp[go_sem]
theorem QTE (x y:Int)(w:World):(binOp .add 22 (.int .u16 x) (.int .u16 y)).run Tryz.prog w=.ok (.int .u16 ((x+y)%65536)) w:=by simp[go_sem,IntKind.wrap_u16]
theorem QUH (x y:Int)(w:World):(binOp .and 5 (.int .u8 x) (.int .u8 y)).run Tryz.prog w=.ok (.int .u8 (bits .and .u8 x y)) w:=by simp[go_sem]
theorem QSS (x y:Int)(w:World):(binOp .or 5 (.int .u8 x) (.int .u8 y)).run Tryz.prog w=.ok (.int .u8 (bits .or .u8 x y)) w:=by simp[go_sem]
theorem QF7 (x y:Int)(h:-9223372036854775808≤x-y)(h':x-y≤9223372036854775807)(w:World):(binOp .sub 3 (.int .i64 x) (.int .i64 y)).run Tryz.prog w=.ok (.int .i64 (x-y)) w:=by
 have e:IntKind.i64.wrap (x-y)=x-y:=by rw[IntKind.wrap_i64];omega
 simp[go_sem,e]
theorem QRZ (x y:Int)(h:-9223372036854775808≤x*y)(h':x*y≤9223372036854775807)(w:World):(binOp .mul 3 (.int .i64 x) (.int .i64 y)).run Tryz.prog w=.ok (.int .i64 (x*y)) w:=by
 have e:IntKind.i64.wrap (x*y)=x*y:=by rw[IntKind.wrap_i64];omega
 simp[go_sem,e]
theorem uNot (b:Bool)(w:World):(Op.unary .not (.bool b)).run Tryz.prog w=.ok (.bool (!b)) w:=by rfl
section
variable {P:Program} {ops:Array Oper} {Q:Exit→Act→World→Prop} {a:Act} {w:World} {o:Oper} {rest:List Oper} {x y:Operand} {W:Value}
theorem JN (hg:o.guard=none):Region.wanted o (yielded ops a.tmps)=true:=by simp only[Region.wanted,hg]
theorem QRc (d:Tmp)(V:Value)(hd:o.dst=some d)(hg:o.guard=none)(ho:o.op=.move x∨o.op=.assign x)(hx:a.eval x=V)(h:WL P ops Q rest (a.put (some d) V) w):WL P ops Q (o :: rest) a w :=
 Jf d V hd (JN hg) (XZ ho hx w) h
theorem sNil (d:Tmp)(ad:Addr)(hd:o.dst=some d)(hg:o.guard=none)(ho:o.op=.nilCheck x)(hx:a.eval x=.pointer (some ad))(h:WL P ops Q rest (a.put (some d) (.pointer (some ad))) w):WL P ops Q (o :: rest) a w :=
 Jf d _ hd (JN hg) (QCC ho hx w) h
theorem QTA (d:Tmp)(V R:Value){t:TypeId} {f:Nat}(hd:o.dst=some d)(hg:o.guard=none)(ho:o.op=.fieldAddr t x f)(hx:a.eval x=V)(hf:∀ w,(Instr.fieldAt t V f).run P w=.ok R w)(h:WL P ops Q rest (a.put (some d) R) w):WL P ops Q (o :: rest) a w :=
 Jf d R hd (JN hg) (ZL ho hx hf w) h
theorem QUI (d:Tmp)(ad:Addr)(V:Value){t:TypeId}(hd:o.dst=some d)(hg:o.guard=none)(ho:o.op=.load t x)(hx:a.eval x=.pointer (some ad))(hl:(Instr.loadAt t (.pointer (some ad))).run P w=.ok V w)(h:WL P ops Q rest (a.put (some d) V) w):WL P ops Q (o :: rest) a w :=
 Jf d V hd (JN hg) (jC ho hx hl) h
theorem QKe (ad:Addr)(V:Value){t:TypeId} {w':World}(hd:o.dst=none)(hg:o.guard=none)(ho:o.op=.store t x y)(hx:a.eval x=.pointer (some ad))(hy:a.eval y=V)(hl:(Instr.storeAt t (.pointer (some ad)) V).run P w=.ok () w')(h:WL P ops Q rest (a.put none undef) w'):WL P ops Q (o :: rest) a w :=
 Xo hd (JN hg) (Qy ho hx hy hl) h
theorem sBin (d:Tmp)(V W R:Value){op:BinOp} {t r:TypeId}(hd:o.dst=some d)(hg:o.guard=none)(ho:o.op=.binOp op t x y r)(hx:a.eval x=V)(hy:a.eval y=W)(hgd:∀ w,(eqGuard op t x y V W).run P w=.ok () w)(hb:∀ w,(binOp op t V W).run P w=.ok R w)(h:WL P ops Q rest (a.put (some d) R) w):WL P ops Q (o :: rest) a w :=
 Jf d R hd (JN hg) (QDC ho hx hy hgd hb w) h
theorem QTx (d:Tmp)(V:Value)(b:Bool){c:Operand}(hd:o.dst=some d)(hg:o.guard=none)(ho:o.op=.pick c x y)(hc:a.eval c=.bool b)(hv:(if b=true then a.eval x else a.eval y)=V)(h:WL P ops Q rest (a.put (some d) V) w):WL P ops Q (o :: rest) a w :=
 Jf d V hd (JN hg) (QSr ho hc hv w) h
theorem QR9 (d:Tmp)(cells:Array Value){t:TypeId} {parts:Array (Nat×Operand)}(hd:o.dst=some d)(hg:o.guard=none)(ho:o.op=.build t parts)(hc:P.built t (parts.map fun (i,x)=>(i,a.eval x)).toList=some cells)(h:WL P ops Q rest (a.put (some d) (.agg cells)) w):WL P ops Q (o :: rest) a w :=
 Jf d _ hd (JN hg) (QHS ho hc w) h
theorem QOO (d:Tmp)(vs:Array Value)(V:Value){i:Nat}(hd:o.dst=some d)(hg:o.guard=none)(ho:o.op=.extract x i)(hx:a.eval x=.tuple vs)(hi:vs[i]? = some V)(h:WL P ops Q rest (a.put (some d) V) w):WL P ops Q (o :: rest) a w :=
 Jf d V hd (JN hg) (XB ho hx hi w) h
theorem QTG (d:Tmp)(V W R:Value){t:TypeId}(hd:o.dst=some d)(hg:o.guard=none)(ho:o.op=.indexAddr t x y)(hx:a.eval x=V)(hy:a.eval y=W)(hl:(Instr.indexAt t V W).run P w=.ok R w)(h:WL P ops Q rest (a.put (some d) R) w):WL P ops Q (o :: rest) a w :=
 Jf d R hd (JN hg) (QLc ho hx hy hl) h
theorem QSu (V:Value){g:FuncId} {args:Array Value} {N:World→Prop}(hg:o.guard=none)(he:(execOp a.eval o).run P w=.ok (.enter g args) w)(hc:Calls P g args w fun e w'=>e=.returned V∧N w')
 (h:∀ w',N w'→WL P ops Q rest (a.put o.dst V) w'):WL P ops Q (o :: rest) a w :=
 Q9 (JN hg) he hc fun e w' ⟨h1,h2⟩=>by subst h1;exact h w' h2
theorem JM {next:Act→World→Prop}(h:next a w):Exit.then next Q .normal a w:=h
theorem QLY {next:Act→World→Prop}(h:Q .ret a w):Exit.then next Q .ret a w:=h
theorem jo {next:Act→World→Prop} {c:List PanicEntry}(h:Q (.panic c) a w):Exit.then next Q (.panic c) a w:=h
theorem QC9 {next:Act→World→Prop} {i:Nat}(h:Q (.exit i) a w):Exit.then next Q (.exit i) a w:=h
theorem Qt {i:Nat}(h:Q .normal a w):Exit.inBlock i Q .normal a w:=h
theorem zq {i:Nat} {c:List PanicEntry}(h:Q (.panic c) a w):Exit.inBlock i Q (.panic c) a w:=h
theorem QGl {i:Nat}(h:Q .normal a w):Exit.inBlock i Q (.exit i) a w:=by simp only[Exit.inBlock,if_true];exact h
theorem X8 {fn:Func} {R:Ending→World→Prop}(h:fn.results=#[])(hd:a.defers=[])(hR:R (.returned (.tuple #[])) w):bodyPost P fn R .normal a w:=bodyPost_end (results_none h _ _ _) hd hR
theorem retV {fn:Func} {R:Ending→World→Prop}(h:fn.results=#[])(hd:a.defers=[])(hR:R (.returned (.tuple #[])) w):bodyPost P fn R .ret a w:=bodyPost_ret (results_none h _ _ _) hd hR
theorem QO4 {fn:Func} {R:Ending→World→Prop}(t:Tmp)(V:Value)(h:fn.results=#[.tmp t])(hv:a.tmps.getD t undef=V)(hd:a.defers=[])(hR:R (.returned V) w):bodyPost P fn R .ret a w:=bodyPost_ret (by rw[results_tmp h,hv]) hd hR
theorem Qv {fn:Func} {R:Ending→World→Prop} {c:List PanicEntry}(hd:a.defers=[])(hR:R (.panicked c) w):bodyPost P fn R (.panic c) a w:=⟨hd,hR⟩
end
section
variable {α β:Type}
theorem JK {c:Prop} [Decidable c] {t e:Tr α} {xs:List Int}(hc:c):(if c then t else e).run xs=t.run xs:=by rw[if_pos hc]
theorem JG {c:Prop} [Decidable c] {t e:Tr α} {xs:List Int}(hc:¬c):(if c then t else e).run xs=e.run xs:=by rw[if_neg hc]
theorem qj {c:Prop} [Decidable c] {t e:Tr α} {f:α→Tr β} {xs:List Int}(hc:c):((if c then t else e).bind f).run xs=(t.bind f).run xs:=by rw[if_pos hc]
theorem qh {c:Prop} [Decidable c] {t e:Tr α} {f:α→Tr β} {xs:List Int}(hc:¬c):((if c then t else e).bind f).run xs=(e.bind f).run xs:=by rw[if_neg hc]
theorem Wd16.mod (x:Int):Wd16 (x%65536):=⟨by omega,by omega⟩
theorem B8.mod (x:Int):B8 (x%256):=⟨by omega,by omega⟩
end
@[reducible] def pT (b k:Nat):Value:=.pointer (some ⟨b,k,none⟩)
theorem sA {α:Type}(l:List α)(i:Nat)(a:α):l.toArray.setIfInBounds i a=(l.set i a).toArray:=List.setIfInBounds_toArray l i a
theorem sB {α:Type}(x a:α)(l:List α):(x :: l).set 0 a=a :: l:=List.set_cons_zero
theorem sC {α:Type}(x a:α)(l:List α)(i:Nat):(x :: l).set (i+1) a=x :: l.set i a:=List.set_cons_succ
section
variable {P:Program} {ops:Array Oper} {Q:Exit→Act→World→Prop} {a:Act} {w:World} {o:Oper} {rest:List Oper} {x y:Operand} {V W R:Value} {t r:TypeId}
theorem oM (d:Tmp)(V:Value)(h:WL P ops Q rest (a.put (some d) V) w)(hd:o.dst=some d:=by exact rfl)(hg:o.guard=none:=by exact rfl)(ho:o.op=.move x:=by exact rfl)(hx:a.eval x=V:=by kernel_rfl):WL P ops Q (o :: rest) a w:=QRc d V hd hg (.inl ho) hx h
theorem oA (d:Tmp)(V:Value)(h:WL P ops Q rest (a.put (some d) V) w)(hd:o.dst=some d:=by exact rfl)(hg:o.guard=none:=by exact rfl)(ho:o.op=.assign x:=by exact rfl)(hx:a.eval x=V:=by kernel_rfl):WL P ops Q (o :: rest) a w:=QRc d V hd hg (.inr ho) hx h
theorem oN (d:Tmp)(p k:Nat)(h:WL P ops Q rest (a.put (some d) (pT p k)) w)(hd:o.dst=some d:=by exact rfl)(hg:o.guard=none:=by exact rfl)(ho:o.op=.nilCheck x:=by exact rfl)(hx:a.eval x=pT p k:=by kernel_rfl):WL P ops Q (o :: rest) a w:=sNil d ⟨p,k,none⟩ hd hg ho hx h
theorem oF (d:Tmp){f:Nat}(hf:∀ w,(Instr.fieldAt t V f).run P w=.ok R w)(h:WL P ops Q rest (a.put (some d) R) w)(hd:o.dst=some d:=by exact rfl)(hg:o.guard=none:=by exact rfl)(ho:o.op=.fieldAddr t x f:=by exact rfl)(hx:a.eval x=V:=by kernel_rfl):WL P ops Q (o :: rest) a w:=QTA d V R hd hg ho hx hf h
theorem oL (d:Tmp){ad:Addr}(hl:(Instr.loadAt t (.pointer (some ad))).run P w=.ok V w)(h:WL P ops Q rest (a.put (some d) V) w)(hd:o.dst=some d:=by exact rfl)(hg:o.guard=none:=by exact rfl)(ho:o.op=.load t x:=by exact rfl)(hx:a.eval x=.pointer (some ad):=by kernel_rfl):WL P ops Q (o :: rest) a w:=QUI d ad V hd hg ho hx hl h
theorem oB (d:Tmp){op:BinOp}(hgd:∀ w,(eqGuard op t x y V W).run P w=.ok () w)(hb:∀ w,(binOp op t V W).run P w=.ok R w)(h:WL P ops Q rest (a.put (some d) R) w)(hd:o.dst=some d:=by exact rfl)(hg:o.guard=none:=by exact rfl)(ho:o.op=.binOp op t x y r:=by exact rfl)(hx:a.eval x=V:=by kernel_rfl)(hy:a.eval y=W:=by kernel_rfl):WL P ops Q (o :: rest) a w:=sBin d V W R hd hg ho hx hy hgd hb h
theorem oJ (d:Tmp)(V W R:Value){op:BinOp}(hgd:∀ w,(eqGuard op t x y V W).run P w=.ok () w)(hb:∀ w,(binOp op t V W).run P w=.ok R w)(h:WL P ops Q rest (a.put (some d) R) w)(hd:o.dst=some d:=by exact rfl)(hg:o.guard=none:=by exact rfl)(ho:o.op=.binOp op t x y r:=by exact rfl)(hx:a.eval x=V:=by kernel_rfl)(hy:a.eval y=W:=by kernel_rfl):WL P ops Q (o :: rest) a w:=sBin d V W R hd hg ho hx hy hgd hb h
theorem oP (d:Tmp)(V:Value)(b:Bool){c:Operand}(h:WL P ops Q rest (a.put (some d) V) w)(hd:o.dst=some d:=by exact rfl)(hg:o.guard=none:=by exact rfl)(ho:o.op=.pick c x y:=by exact rfl)(hc:a.eval c=.bool b:=by kernel_rfl)(hv:(if b=true then a.eval x else a.eval y)=V:=by kernel_rfl):WL P ops Q (o :: rest) a w:=QTx d V b hd hg ho hc hv h
theorem oX (d:Tmp)(vs:Array Value)(V:Value){i:Nat}(h:WL P ops Q rest (a.put (some d) V) w)(hd:o.dst=some d:=by exact rfl)(hg:o.guard=none:=by exact rfl)(ho:o.op=.extract x i:=by exact rfl)(hx:a.eval x=.tuple vs:=by kernel_rfl)(hi:vs[i]? = some V:=by kernel_rfl):WL P ops Q (o :: rest) a w:=QOO d vs V hd hg ho hx hi h
theorem oS (ad:Addr)(V:Value){w':World}(hl:(Instr.storeAt t (.pointer (some ad)) V).run P w=.ok () w')(h:WL P ops Q rest (a.put none undef) w')(hd:o.dst=none:=by exact rfl)(hg:o.guard=none:=by exact rfl)(ho:o.op=.store t x y:=by exact rfl)(hx:a.eval x=.pointer (some ad):=by kernel_rfl)(hy:a.eval y=V:=by kernel_rfl):WL P ops Q (o :: rest) a w:=QKe ad V hd hg ho hx hy hl h
theorem oU (d:Tmp)(cells:Array Value){parts:Array (Nat×Operand)}(h:WL P ops Q rest (a.put (some d) (.agg cells)) w)(hd:o.dst=some d:=by exact rfl)(hg:o.guard=none:=by exact rfl)(ho:o.op=.build t parts:=by exact rfl)(hc:P.built t (parts.map fun (i,x)=>(i,a.eval x)).toList=some cells:=by kernel_rfl):WL P ops Q (o :: rest) a w:=QR9 d cells hd hg ho hc h
theorem oI (d:Tmp)(V W R:Value)(hl:(Instr.indexAt t V W).run P w=.ok R w)(h:WL P ops Q rest (a.put (some d) R) w)(hd:o.dst=some d:=by exact rfl)(hg:o.guard=none:=by exact rfl)(ho:o.op=.indexAddr t x y:=by exact rfl)(hx:a.eval x=V:=by kernel_rfl)(hy:a.eval y=W:=by kernel_rfl):WL P ops Q (o :: rest) a w:=QTG d V W R hd hg ho hx hy hl h
theorem oZ (d:Tmp)(h:WL P ops Q rest (a.put (some d) undef) w)(hd:o.dst=some d:=by exact rfl)(hw:Region.wanted o (yielded ops a.tmps)=false:=by kernel_rfl):WL P ops Q (o :: rest) a w:=QCO d hd hw h
theorem oT (d:Tmp)(V:Value)(he:(execOp a.eval o).run P w=.ok (.value V) w)(h:WL P ops Q rest (a.put (some d) V) w)(hd:o.dst=some d:=by exact rfl)(hw:Region.wanted o (yielded ops a.tmps)=true:=by kernel_rfl):WL P ops Q (o :: rest) a w:=Jf d V hd hw he h
theorem oY (d:Tmp)(V:Value)(h:WL P ops Q rest (a.put (some d) V) w)(hd:o.dst=some d:=by exact rfl)(hw:Region.wanted o (yielded ops a.tmps)=true:=by kernel_rfl)(ho:o.op=.move x:=by exact rfl)(hx:a.eval x=V:=by kernel_rfl):WL P ops Q (o :: rest) a w:=Jf d V hd hw (XZ (.inl ho) hx _) h
theorem oC (V:Value){g:FuncId} {args:Array Value} {N:World→Prop}(hc:Calls P g args w fun e w'=>e=.returned V∧N w')(h:∀ w',N w'→WL P ops Q rest (a.put o.dst V) w')(hg:o.guard=none:=by exact rfl)(he:(execOp a.eval o).run P w=.ok (.enter g args) w:=by kernel_rfl):WL P ops Q (o :: rest) a w:=QSu V hg he hc h
end
section
variable {P:Program} {ops:Array Oper} {Q:Exit→Act→World→Prop} {a:Act} {w:World} {o:Oper} {S:World→Prop} {n f:Nat} {listed:Array Bool} {x y:Operand} {V W R:Value} {t r:TypeId}
theorem yG (i:Nat)(d:Tmp)(v:Value)(ho:ops[i]? = some o)(he:∀ w,S w→(execOp a.eval o).run P w=.ok (.value v) w)(hS:S w)(h:Zc P ops Q S n f (listed.setIfInBounds i true) (a.put (some d) v) w)(hd:o.dst=some d:=by exact rfl)(hB:Q0 ops n=true:=by kernel_rfl)(hin:decide (i < n)=true:=by kernel_rfl)
 (hf:Region.free .any ops listed i=true:=by kernel_rfl)(hr:(Region.ready .any ops listed).contains i=true:=by kernel_rfl)(hQ:∀ c a w,Q (.panic c) (a.put o.dst v) w→Q (.panic c) a w:=by exact fun _ _ _ h=>h)(hw:Region.wanted o (yielded ops a.tmps)=true:=by kernel_rfl):Zc P ops Q S n (f+1) listed a w :=
 Zy d v hd ho hB hin hf hr hQ hw he hS h
theorem yM (i:Nat)(d:Tmp)(v:Value)(hS:S w)(h:Zc P ops Q S n f (listed.setIfInBounds i true) (a.put (some d) v) w)(ho:ops[i]? = some o:=by exact rfl)(hd:o.dst=some d:=by exact rfl)(hB:Q0 ops n=true:=by kernel_rfl)(hin:decide (i < n)=true:=by kernel_rfl)
 (hf:Region.free .any ops listed i=true:=by kernel_rfl)(hr:(Region.ready .any ops listed).contains i=true:=by kernel_rfl)(hQ:∀ c a w,Q (.panic c) (a.put o.dst v) w→Q (.panic c) a w:=by exact fun _ _ _ h=>h)(hw:Region.wanted o (yielded ops a.tmps)=true:=by kernel_rfl)
 (hp:o.op=.move x:=by exact rfl)(hx:a.eval x=v:=by kernel_rfl):Zc P ops Q S n (f+1) listed a w :=
 Zy d v hd ho hB hin hf hr hQ hw (fun w _=>XZ (.inl hp) hx w) hS h
theorem yN (i:Nat)(d:Tmp)(p k:Nat)(hS:S w)(h:Zc P ops Q S n f (listed.setIfInBounds i true) (a.put (some d) (pT p k)) w)(ho:ops[i]? = some o:=by exact rfl)(hd:o.dst=some d:=by exact rfl)(hB:Q0 ops n=true:=by kernel_rfl)(hin:decide (i < n)=true:=by kernel_rfl)
 (hf:Region.free .any ops listed i=true:=by kernel_rfl)(hr:(Region.ready .any ops listed).contains i=true:=by kernel_rfl)(hQ:∀ c a w,Q (.panic c) (a.put o.dst (pT p k)) w→Q (.panic c) a w:=by exact fun _ _ _ h=>h)(hw:Region.wanted o (yielded ops a.tmps)=true:=by kernel_rfl)
 (hp:o.op=.nilCheck x:=by exact rfl)(hx:a.eval x=pT p k:=by kernel_rfl):Zc P ops Q S n (f+1) listed a w :=
 Zy d (pT p k) hd ho hB hin hf hr hQ hw (fun w _=>QCC hp hx w) hS h
theorem yF (i:Nat)(d:Tmp){j:Nat}(hl:∀ w,(Instr.fieldAt t V j).run P w=.ok R w)(hS:S w)(h:Zc P ops Q S n f (listed.setIfInBounds i true) (a.put (some d) R) w)(ho:ops[i]? = some o:=by exact rfl)(hd:o.dst=some d:=by exact rfl)(hB:Q0 ops n=true:=by kernel_rfl)(hin:decide (i < n)=true:=by kernel_rfl)
 (hf:Region.free .any ops listed i=true:=by kernel_rfl)(hr:(Region.ready .any ops listed).contains i=true:=by kernel_rfl)(hQ:∀ c a w,Q (.panic c) (a.put o.dst R) w→Q (.panic c) a w:=by exact fun _ _ _ h=>h)(hw:Region.wanted o (yielded ops a.tmps)=true:=by kernel_rfl)
 (hp:o.op=.fieldAddr t x j:=by exact rfl)(hx:a.eval x=V:=by kernel_rfl):Zc P ops Q S n (f+1) listed a w :=
 Zy d R hd ho hB hin hf hr hQ hw (fun w _=>ZL hp hx hl w) hS h
theorem yL (i:Nat)(d:Tmp){ad:Addr}(V:Value)(hl:∀ w,S w→(Instr.loadAt t (.pointer (some ad))).run P w=.ok V w)(hS:S w)(h:Zc P ops Q S n f (listed.setIfInBounds i true) (a.put (some d) V) w)(ho:ops[i]? = some o:=by exact rfl)(hd:o.dst=some d:=by exact rfl)(hB:Q0 ops n=true:=by kernel_rfl)(hin:decide (i < n)=true:=by kernel_rfl)
 (hf:Region.free .any ops listed i=true:=by kernel_rfl)(hr:(Region.ready .any ops listed).contains i=true:=by kernel_rfl)(hQ:∀ c a w,Q (.panic c) (a.put o.dst V) w→Q (.panic c) a w:=by exact fun _ _ _ h=>h)(hw:Region.wanted o (yielded ops a.tmps)=true:=by kernel_rfl)
 (hp:o.op=.load t x:=by exact rfl)(hx:a.eval x=.pointer (some ad):=by kernel_rfl):Zc P ops Q S n (f+1) listed a w :=
 Zy d V hd ho hB hin hf hr hQ hw (fun w hS=>jC hp hx (hl w hS)) hS h
end
def QY (h:Bool)(v:Int):Int:=if h then v else 0
theorem QN0 (h:Bool)(v:Int)(h0:0≤v)(h1:v≤255)(w:World) :
 Calls Tryz.prog 321 #[.bool h,.int .u8 v] w fun e w'=>e=.returned (.int .u8 (QY h v))∧w=w':=by
 cases h
 all_goals
  go_enter Tryz.func321,Tryz.ntmps321
  go_wp2
  go_ret
  exact⟨rfl,rfl⟩
theorem QRM:∀ k:Fin 8,(2:Int) ^ k.val%256=2 ^ k.val∧(1:Int)≤2 ^ k.val∧(2:Int) ^ k.val≤128∧(2 ^ k.val*2:Int)%256=2 ^ (k.val+1)%256:=by decide +kernel
theorem QA1 (k:Nat)(hk:k < 8):(2:Int) ^ k%256=2 ^ k∧(1:Int)≤2 ^ k∧(2:Int) ^ k≤128∧(2 ^ k*2:Int)%256=2 ^ (k+1)%256:=QRM ⟨k,hk⟩
theorem QJ6 (a b:Int)(ha:B8 a)(hb:B8 b)(k:Nat)(hk:k < 8):(bits .and .u8 (bits .or .u8 a b) (2 ^ k) != 0)=(isM a k||isM b k):=by
 have h:=QHT a b ha.1 ha.2 hb.1 hb.2
 have e:=QGq (bits .or .u8 a b) (k:Int) h.1 h.2 (by omega) (by omega)
 rw[Int.toNat_natCast,(QA1 k hk).1] at e
 rw[e,QOM a b k hk ha.1 ha.2 hb.1 hb.2]
theorem QIG (a b:Int)(ha:B8 a)(hb:B8 b)(k:Nat)(hk:k < 8):(bits .and .u8 (bits .and .u8 a b) (2 ^ k) != 0)=(isM a k&&isM b k):=by
 have h:=QB0 a b ha.1 ha.2 hb.1 hb.2
 have e:=QGq (bits .and .u8 a b) (k:Int) h.1 h.2 (by omega) (by omega)
 rw[Int.toNat_natCast,(QA1 k hk).1] at e
 rw[e,QDw a b k hk ha.1 ha.2 hb.1 hb.2]
theorem QSQ (x:Int)(hx:B8 x)(k:Nat)(hk:k < 8):bits .or .u8 x (2 ^ k)=JQ x k true:=by
 have e:=or_bit x (k:Int) hx.1 hx.2 (by omega) (by omega)
 rwa [Int.toNat_natCast,(QA1 k hk).1] at e
theorem QBu (B:Int)(h1:1≤B)(h2:B≤128):(if B*2%256=0 then 0 else 256-(B*2%256).toNat) < if B=0 then 0 else 256-B.toNat:=by
 rw[if_neg (show ¬B=0 by omega)]
 by_cases h:B*2%256=0
 · rw[if_pos h];omega
 · rw[if_neg h];omega
theorem QIa (a b:Int)(c:Bool)(ha:B8 a)(hb:B8 b)(w:World) :
 Calls Tryz.prog 322 #[.int .u8 a,.int .u8 b,.bool c] w fun e w'=>e=.returned (.int .u8 (qg a b c 8))∧w=w':=by
 go_enter Tryz.func322,Tryz.ntmps322
 go_wp2
 go_loop [2,7,8] (fun cc o i=>∃ k:Nat,k≤8∧cc=.bool (cK a b c k)∧o=.int .u8 (qg a b c k)∧i=.int .u8 (2 ^ k%256)) (fun _ _ i=>if intOf i=0 then 0 else 256-(intOf i).toNat)
 case atStart=>exact⟨0,by omega,by rw[QPt],rfl,rfl⟩
 case round =>
  obtain⟨k,hk,rfl,rfl,rfl⟩:=hrel
  by_cases hlt:k < 8
  · obtain⟨p0,p1,p2,p3⟩:=QA1 k hlt
    have hs:=QQf a b c k hlt
    have o0:=QJ6 a b ha hb k hlt
    have o1:=QIG a b ha hb k hlt
    have o2:=Lib.hid (QSQ _ (QA3 a b c k) k hlt)
    have e2:qg a b c (k+1)=if cK a b c (k+1) then JQ (qg a b c k) k true else qg a b c k:=rfl
    rw[p0]
    have P0:=Lib.hid p0
    have P3:=Lib.hid p3
    clear p0 p3
    generalize hB:(2:Int) ^ k=B at *
    have nz:(B != 0)=true:=by simp;omega
    cases hc:cK a b c k
    · rw[hc] at hs
      simp only[Bool.false_eq_true,if_false,if_true] at hs
      rw[←hs] at o1
      cases hd:cK a b c (k+1)
      · rw[hd] at o1 e2
        have HC:=Lib.hid hc
        have HD:=Lib.hid hd
        have E2:=Lib.hid e2
        clear hs o0 hc hd e2
        go_wp2
        refine⟨⟨k+1,by omega,by rw[HD.out],?_,by rw[P3.out]⟩,?_⟩
        · rw[E2.out];rfl
        · exact QBu B p1 p2
      · rw[hd] at o1 e2
        have HC:=Lib.hid hc
        have HD:=Lib.hid hd
        have E2:=Lib.hid e2
        clear hs o0 hc hd e2
        go_wp2
        refine⟨⟨k+1,by omega,by rw[HD.out],?_,by rw[P3.out]⟩,?_⟩
        · rw[E2.out,o2.out];rfl
        · exact QBu B p1 p2
    · rw[hc] at hs
      simp only[Bool.false_eq_true,if_false,if_true] at hs
      rw[←hs] at o0
      cases hd:cK a b c (k+1)
      · rw[hd] at o0 e2
        have HC:=Lib.hid hc
        have HD:=Lib.hid hd
        have E2:=Lib.hid e2
        clear hs o1 hc hd e2
        go_wp2
        refine⟨⟨k+1,by omega,by rw[HD.out],?_,by rw[P3.out]⟩,?_⟩
        · rw[E2.out];rfl
        · exact QBu B p1 p2
      · rw[hd] at o0 e2
        have HC:=Lib.hid hc
        have HD:=Lib.hid hd
        have E2:=Lib.hid e2
        clear hs o1 hc hd e2
        go_wp2
        refine⟨⟨k+1,by omega,by rw[HD.out],?_,by rw[P3.out]⟩,?_⟩
        · rw[E2.out,o2.out];rfl
        · exact QBu B p1 p2
  · obtain rfl:k=8:=by omega
    go_wp2
    go_ret
    exact⟨rfl,rfl⟩
def QZ (zs:List Int):Nat→Int
 | 0=>0
 | k+1=>bits .or .u8 (QZ zs k) (zs.getD k 0)
theorem QJX (b off len cap:Nat)(zs:List Int)(w:World)(hz:len≤zs.length)(hbig:len≤100)(hc:∀ j,j < zs.length→w.cell? ⟨b,off+j,none⟩=some (.int .u8 (zs.getD j 0))) :
 Calls Tryz.prog 314 #[.slice (some ⟨b,off,none⟩) len cap] w fun e w'=>e=.returned (.int .u8 (QZ zs len))∧w=w':=by
 go_enter Tryz.func314,Tryz.ntmps314
 go_wp2
 go_loop [3,8] (fun t i=>∃ k:Nat,k≤len∧i=.int .i64 k∧t=.int .u8 (QZ zs k)) (fun _ i=>len-(intOf i).toNat)
 case atStart=>exact⟨0,Nat.zero_le _,rfl,rfl⟩
 case round =>
  obtain⟨k,hk,rfl,rfl⟩:=hrel
  by_cases hlt:k < len
  · have hk0:(0:Int)≤(k:Int):=by omega
    have hk1:(k:Int) < (len:Int):=by omega
    have hcell:=hc k (by omega)
    have hc:=Lib.hid hc
    go_wp2
    go_round
    case rel=>exact⟨k+1,by omega,by go_num,rfl⟩
    case measure=>simp[intOf];omega
  · obtain rfl:k=len:=by omega
    go_wp2
    go_ret
    exact⟨rfl,rfl⟩
abbrev two (r f:Int):Value:=.tuple #[.int .u8 r,.int .u8 f]
theorem QRh {w w':World} {A B:Nat} {u v:Value}(k:Below w.heap.size w w')(h:w.cell? ⟨A,0,none⟩=some u∧w.cell? ⟨B,0,none⟩=some v) :
 w'.cell? ⟨A,0,none⟩=some u∧w'.cell? ⟨B,0,none⟩=some v :=
 ⟨(k.cell (World.block_lt_of_cell? _ _ h.1)).trans h.1,(k.cell (World.block_lt_of_cell? _ _ h.2)).trans h.2⟩
theorem qY (w:World)(v:Value)(t:TypeId):(w.alloc (.cells #[v] t)).cell? ⟨w.heap.size,0,none⟩=some v:=by
 have e:∀ o:Obj,(w.alloc o).heap[w.heap.size]? = some o:=fun o=>by
  show (w.heap.push _)[w.heap.size]? = _
  simp
 simp only[World.cell?,e];rfl
theorem cell_kept {w w':World} {p:Addr} {v:Value}(h:w.cell? p=some v)(k:Below w.heap.size w w'):w'.cell? p=some v :=
 (k.cell (World.block_lt_of_cell? _ _ h)).trans h
theorem Zg (w:World)(o:Obj){p:Addr} {v:Value}(h:w.cell? p=some v):(w.alloc o).cell? p=some v :=
 cell_kept h (Below.alloc (Below.refl _ _) (Nat.le_refl _) _)
theorem QHU:∀ (x:Fin 256) (h v c:Bool),QZ [JE (x.val:Int),QY h 16,QY v 4,QY c 1] 4=mkM (isM (x.val:Int) 7) ((x.val:Int)==0) (isM (x.val:Int) 5) h (isM (x.val:Int) 3) v false c:=by decide +kernel
theorem QN3 (x:Int)(hx:B8 x)(h v c:Bool):QZ [JE x,QY h 16,QY v 4,QY c 1] 4=mkM (isM x 7) (x==0) (isM x 5) h (isM x 3) v false c :=
 QB (P:=fun x=>QZ [JE x,QY h 16,QY v 4,QY c 1] 4=mkM (isM x 7) (x==0) (isM x 5) h (isM x 3) v false c) (fun x=>QHU x h v c) x hx.1 hx.2
theorem QNY (a b:Int)(c:Bool)(ha:B8 a)(hb:B8 b) :
 QZ [JE (XJ a b c),QY (isM (qg a b c 8) 3) 16,QY (!isM (qg a b c 8) 6==isM (qg a b c 8) 7) 4,QY (isM (qg a b c 8) 7) 1] 4=XI a b c:=by
 obtain⟨e3,e6,e7⟩:=QOY a b c
 obtain⟨n4,n8,n7⟩:=QP7 a b c ha hb
 change QZ [_,_,QY (isM (qg a b c 8) 6 != isM (qg a b c 8) 7) 4,_] 4=_
 rw[QN3 _ (QO a b c),e3,e6,e7,n7,n4,n8]
 rfl
theorem QN8 (w:World)(t:TypeId)(x0 x1 x2 x3:Int)(n:Nat×Nat):∀ j,j < [x0,x1,x2,x3].length→(w.alloc (.cells #[.int .u8 x0,.int .u8 x1,.int .u8 x2,.int .u8 x3] t n)).cell? ⟨w.heap.size,0+j,none⟩=some (.int .u8 ([x0,x1,x2,x3].getD j 0)):=by
 have e:∀ o:Obj,(w.alloc o).heap[w.heap.size]? = some o:=fun o=>by
  show (w.heap.push _)[w.heap.size]? = _
  simp
 intro j hj
 match j,hj with
 | 0,_=>simp only[World.cell?,Nat.zero_add,e];rfl
 | 1,_=>simp only[World.cell?,Nat.zero_add,e];rfl
 | 2,_=>simp only[World.cell?,Nat.zero_add,e];rfl
 | 3,_=>simp only[World.cell?,Nat.zero_add,e];rfl
theorem QOw (w:World)(t:TypeId)(x0 x1:Int)(n:Nat×Nat):∀ j,j < [x0,x1].length→(w.alloc (.cells #[.int .u8 x0,.int .u8 x1] t n)).cell? ⟨w.heap.size,0+j,none⟩=some (.int .u8 ([x0,x1].getD j 0)):=by
 have e:∀ o:Obj,(w.alloc o).heap[w.heap.size]? = some o:=fun o=>by
  show (w.heap.push _)[w.heap.size]? = _
  simp
 intro j hj
 match j,hj with
 | 0,_=>simp only[World.cell?,Nat.zero_add,e];rfl
 | 1,_=>simp only[World.cell?,Nat.zero_add,e];rfl
theorem QAi (a b:Int)(c:Bool)(ha:B8 a)(hb:B8 b)(w:World) :
 Calls Tryz.prog 287 #[.int .u8 a,.int .u8 b,.bool c] w fun e w'=>e=.returned (two (XJ a b c) (XI a b c))∧Below w.heap.size w w':=by
 have hm:=Lib.hid (QNY a b c ha hb)
 have hr:=Lib.hid (QO a b c)
 have ho:=Lib.hid (QA3 a b c 8)
 have ha:=Lib.hid ha
 have hb:=Lib.hid hb
 have a0:=ha.out.1
 have a1:=ha.out.2
 have b0:=hb.out.1
 have b1:=hb.out.2
 go_enter Tryz.func287,Tryz.ntmps287
 go_wp2_with (first
  | (go_at_call 321;refine (QN0 _ _ (by omega) (by omega) _).mono ?_;rintro e w' ⟨rfl,rfl⟩)
  | (go_at_call 322;refine (QIa _ _ _ ha.out hb.out _).mono ?_;rintro e w' ⟨rfl,rfl⟩)
  | (go_at_call 258;refine (XY _ _ ho.out.1 ho.out.2 _).mono ?_;rintro e w' ⟨rfl,rfl⟩)
  | (go_at_call 307;refine (jM _ (by omega) (by omega) _).mono ?_;rintro e w' ⟨rfl,rfl⟩)
  | (go_at_call 314;refine (QJX _ 0 4 4 [JE (XJ a b c),QY (isM (qg a b c 8) 3) 16,QY (!isM (qg a b c 8) 6==isM (qg a b c 8) 7) 4,QY (isM (qg a b c 8) 7) 1] _ (by simp) (by omega) (QN8 _ _ _ _ _ _ _)).mono ?_;rintro e w' ⟨rfl,rfl⟩))
 go_ret2
 exact⟨by rw[hm.out];rfl,(by repeat (first|exact Below.refl _ _|assumption|refine JZ ?_ (by assumption)|refine Below.drew ?_|refine Below.alloc ?_ (by first|(simp;done)|(simp;omega)|omega) _|refine Below.setCell ?_ (by first|(simp;done)|(simp;omega)|omega) _))⟩
theorem QLj (x y:Bool)(w:World) :
 Calls Tryz.prog 328 #[.bool x,.bool y] w fun e w'=>e=.returned (.bool (QJm x y))∧w=w':=by
 cases x
 all_goals
  go_enter Tryz.func328,Tryz.ntmps328
  go_wp2
  go_ret
  exact⟨rfl,rfl⟩
theorem QPi (x y:Bool)(w:World) :
 Calls Tryz.prog 330 #[.bool x,.bool y] w fun e w'=>e=.returned (.bool (orB x y))∧w=w':=by
 cases x
 all_goals
  go_enter Tryz.func330,Tryz.ntmps330
  go_wp2
  go_ret
  exact⟨rfl,rfl⟩
theorem QLp (x y:Bool)(w:World) :
 Calls Tryz.prog 329 #[.bool x,.bool y] w fun e w'=>e=.returned (.bool (QFm x y))∧w=w':=by
 go_enter Tryz.func329,Tryz.ntmps329
 go_wp2
 go_ret
 exact⟨rfl,rfl⟩
theorem QGt (a b:Int)(ha:B8 a)(hB:B8 b)(w:World) :
 Calls Tryz.prog 327 #[.int .u8 a,.int .u8 b,.func (.func 328) #[] #[]] w fun e w'=>e=.returned (.int .u8 (qX a b))∧Below w.heap.size w w':=by
 go_enter Tryz.func327,Tryz.ntmps327
 go_wp2
 refine wp_loop_rounds 9 ?_
 iterate 9 (rw[rounds_succ];go_wp2_with (first
  | (go_at_call 258;refine (XY _ _ (B8.lo (by assumption)) (B8.hi (by assumption)) _).mono ?_;rintro e w' ⟨rfl,rfl⟩)
  | (go_at_call 328;refine (QLj _ _ _).mono ?_;rintro e w' ⟨rfl,rfl⟩)
  | (go_at_call 195;refine (XS _ _ _ (B8.lo (by repeat (first|exact B8.zero|apply B8.with))) (B8.hi (by repeat (first|exact B8.zero|apply B8.with))) _).mono ?_;rintro e w' ⟨rfl,rfl⟩)))
 go_ret
 exact⟨Qf (QIK _ _ _ _ _ _ _ _),(by repeat (first|exact Below.refl _ _|assumption|refine JZ ?_ (by assumption)|refine Below.drew ?_|refine Below.alloc ?_ (by first|(simp;done)|(simp;omega)|omega) _|refine Below.setCell ?_ (by first|(simp;done)|(simp;omega)|omega) _))⟩
theorem QIS (a b:Int)(ha:B8 a)(hB:B8 b)(w:World) :
 Calls Tryz.prog 327 #[.int .u8 a,.int .u8 b,.func (.func 330) #[] #[]] w fun e w'=>e=.returned (.int .u8 (orR a b))∧Below w.heap.size w w':=by
 go_enter Tryz.func327,Tryz.ntmps327
 go_wp2
 refine wp_loop_rounds 9 ?_
 iterate 9 (rw[rounds_succ];go_wp2_with (first
  | (go_at_call 258;refine (XY _ _ (B8.lo (by assumption)) (B8.hi (by assumption)) _).mono ?_;rintro e w' ⟨rfl,rfl⟩)
  | (go_at_call 330;refine (QPi _ _ _).mono ?_;rintro e w' ⟨rfl,rfl⟩)
  | (go_at_call 195;refine (XS _ _ _ (B8.lo (by repeat (first|exact B8.zero|apply B8.with))) (B8.hi (by repeat (first|exact B8.zero|apply B8.with))) _).mono ?_;rintro e w' ⟨rfl,rfl⟩)))
 go_ret
 exact⟨Qf (QIK _ _ _ _ _ _ _ _),(by repeat (first|exact Below.refl _ _|assumption|refine JZ ?_ (by assumption)|refine Below.drew ?_|refine Below.alloc ?_ (by first|(simp;done)|(simp;omega)|omega) _|refine Below.setCell ?_ (by first|(simp;done)|(simp;omega)|omega) _))⟩
theorem QG9 (a b:Int)(ha:B8 a)(hB:B8 b)(w:World) :
 Calls Tryz.prog 327 #[.int .u8 a,.int .u8 b,.func (.func 329) #[] #[]] w fun e w'=>e=.returned (.int .u8 (Zf a b))∧Below w.heap.size w w':=by
 go_enter Tryz.func327,Tryz.ntmps327
 go_wp2
 refine wp_loop_rounds 9 ?_
 iterate 9 (rw[rounds_succ];go_wp2_with (first
  | (go_at_call 258;refine (XY _ _ (B8.lo (by assumption)) (B8.hi (by assumption)) _).mono ?_;rintro e w' ⟨rfl,rfl⟩)
  | (go_at_call 329;refine (QLp _ _ _).mono ?_;rintro e w' ⟨rfl,rfl⟩)
  | (go_at_call 195;refine (XS _ _ _ (B8.lo (by repeat (first|exact B8.zero|apply B8.with))) (B8.hi (by repeat (first|exact B8.zero|apply B8.with))) _).mono ?_;rintro e w' ⟨rfl,rfl⟩)))
 go_ret
 exact⟨Qf (QIK _ _ _ _ _ _ _ _),(by repeat (first|exact Below.refl _ _|assumption|refine JZ ?_ (by assumption)|refine Below.drew ?_|refine Below.alloc ?_ (by first|(simp;done)|(simp;omega)|omega) _|refine Below.setCell ?_ (by first|(simp;done)|(simp;omega)|omega) _))⟩
theorem QQL (a b:Int)(ha:B8 a)(hB:B8 b)(w:World) :
 Calls Tryz.prog 295 #[.int .u8 a,.int .u8 b] w fun e w'=>e=.returned (two (qX a b) (qO (qX a b)))∧Below w.heap.size w w':=by
 have hr:B8 (qX a b):=J3 ..
 have hm:=Lib.hid (QM3 _ hr)
 go_enter Tryz.func295,Tryz.ntmps295
 go_wp2_with (first
  | (go_at_call 327;refine (QGt _ _ (by assumption) (by assumption) _).mono ?_;rintro e w' ⟨rfl,hb⟩;have hsz:=hb.size)
  | (go_at_call 254;refine (ZO _ (B8.lo (by assumption)) (B8.hi (by assumption)) _).mono ?_;rintro e w' ⟨rfl,hb⟩;have hsz:=hb.size))
 go_ret2
 exact⟨by rw[hm.out];rfl,(by repeat (first|exact Below.refl _ _|assumption|refine JZ ?_ (by assumption)|refine Below.drew ?_|refine Below.alloc ?_ (by first|(simp;done)|(simp;omega)|omega) _|refine Below.setCell ?_ (by first|(simp;done)|(simp;omega)|omega) _))⟩
theorem QSU (a b:Int)(ha:B8 a)(hB:B8 b)(w:World) :
 Calls Tryz.prog 297 #[.int .u8 a,.int .u8 b] w fun e w'=>e=.returned (two (orR a b) (Jn (orR a b)))∧Below w.heap.size w w':=by
 have hr:B8 (orR a b):=J3 ..
 go_enter Tryz.func297,Tryz.ntmps297
 go_wp2_with (first
  | (go_at_call 327;refine (QIS _ _ (by assumption) (by assumption) _).mono ?_;rintro e w' ⟨rfl,hb⟩;have hsz:=hb.size)
  | (go_at_call 254;refine (ZO _ (B8.lo (by assumption)) (B8.hi (by assumption)) _).mono ?_;rintro e w' ⟨rfl,hb⟩;have hsz:=hb.size))
 go_ret2
 exact⟨rfl,(by repeat (first|exact Below.refl _ _|assumption|refine JZ ?_ (by assumption)|refine Below.drew ?_|refine Below.alloc ?_ (by first|(simp;done)|(simp;omega)|omega) _|refine Below.setCell ?_ (by first|(simp;done)|(simp;omega)|omega) _))⟩
theorem QQB (a b:Int)(ha:B8 a)(hB:B8 b)(w:World) :
 Calls Tryz.prog 296 #[.int .u8 a,.int .u8 b] w fun e w'=>e=.returned (two (Zf a b) (Jn (Zf a b)))∧Below w.heap.size w w':=by
 have hr:B8 (Zf a b):=J3 ..
 go_enter Tryz.func296,Tryz.ntmps296
 go_wp2_with (first
  | (go_at_call 327;refine (QG9 _ _ (by assumption) (by assumption) _).mono ?_;rintro e w' ⟨rfl,hb⟩;have hsz:=hb.size)
  | (go_at_call 254;refine (ZO _ (B8.lo (by assumption)) (B8.hi (by assumption)) _).mono ?_;rintro e w' ⟨rfl,hb⟩;have hsz:=hb.size))
 go_ret2
 exact⟨rfl,(by repeat (first|exact Below.refl _ _|assumption|refine JZ ?_ (by assumption)|refine Below.drew ?_|refine Below.alloc ?_ (by first|(simp;done)|(simp;omega)|omega) _|refine Below.setCell ?_ (by first|(simp;done)|(simp;omega)|omega) _))⟩
theorem QCv (b f:Int)(hb:B8 b)(hf:B8 f)(w:World) :
 Calls Tryz.prog 324 #[.int .u8 b,.int .u8 f] w fun e w'=>e=.returned (.int .u8 (Xc (JE b) f 196))∧w=w':=by
 have hr:=J7 b
 go_enter Tryz.func324,Tryz.ntmps324
 go_wp2_with (first
  | (go_at_call 307;refine (jM _ (B8.lo (by assumption)) (B8.hi (by assumption)) _).mono ?_;rintro e w' ⟨rfl,rfl⟩)
  | (go_at_call 257;refine (X1 _ _ _ (B8.lo (by assumption)) (B8.hi (by assumption)) (B8.lo (by assumption)) (B8.hi (by assumption)) (by omega) (by omega) _).mono ?_;rintro e w' ⟨rfl,rfl⟩))
 go_ret
 exact⟨rfl,rfl⟩
theorem QME:∀ x:Fin 256,bits .xor .u8 IntKind.u8.max (x.val:Int)=255-(x.val:Int):=by decide +kernel
theorem QTr (b:Int)(hb:B8 b):bits .xor .u8 IntKind.u8.max b=255-b :=
 QB (P:=fun b=>bits .xor .u8 IntKind.u8.max b=255-b) QME b hb.1 hb.2
theorem QQ3 (a f:Int)(ha:B8 a)(hf:B8 f)(w:World) :
 Calls Tryz.prog 289 #[.int .u8 a,.int .u8 f] w fun e w'=>e=.returned (two (255-a) (QED a f))∧w=w':=by
 have hr:B8 (255-a):=⟨by have:=ha.2;omega,by have:=ha.1;omega⟩
 have hx:=QTr a ha
 have hm:=Lib.hid (QO7 a f hf)
 go_enter Tryz.func289,Tryz.ntmps289
 go_wp2_with (first
  | (go_at_call 324;refine (QCv _ _ (by assumption) (by assumption) _).mono ?_;rintro e w' ⟨rfl,rfl⟩))
 go_ret2
 exact⟨by rw[←hm.out];rfl,rfl⟩
theorem QLa (a f:Int)(ha:B8 a)(hf:B8 f)(w:World) :
 Calls Tryz.prog 290 #[.int .u8 a,.int .u8 f] w fun e w'=>e=.returned (.int .u8 (QCt a f))∧w=w':=by
 have hm:=Lib.hid (QNo a f)
 go_enter Tryz.func290,Tryz.ntmps290
 go_wp2_with (first
  | (go_at_call 324;refine (QCv _ _ (by assumption) (by assumption) _).mono ?_;rintro e w' ⟨rfl,rfl⟩))
 go_ret
 exact⟨Qf hm.out,rfl⟩
theorem QPm (a f:Int)(ha:B8 a)(hf:B8 f)(w:World) :
 Calls Tryz.prog 291 #[.int .u8 a,.int .u8 f] w fun e w'=>e=.returned (.int .u8 (QCZ a f))∧w=w':=by
 have k:=zj f hf
 cases hc:isM f 0
 · have hm:=Lib.hid (QS7 a f hc)
   have k0:bits .and .u8 f 1=0:=by rw[k,hc];rfl
   clear k hc
   go_enter Tryz.func291,Tryz.ntmps291
   go_wp2_with (first
    | (go_at_call 290;refine (QLa _ _ (by assumption) (by assumption) _).mono ?_;rintro e w' ⟨rfl,rfl⟩))
   go_ret
   exact⟨Qf hm.out,rfl⟩
 · have hm:=Lib.hid (QP0 a f hc)
   have k0:bits .and .u8 f 1=1:=by rw[k,hc];rfl
   clear k hc
   go_enter Tryz.func291,Tryz.ntmps291
   go_wp2_with (first
    | (go_at_call 324;refine (QCv _ _ (by assumption) (by assumption) _).mono ?_;rintro e w' ⟨rfl,rfl⟩))
   go_ret
   exact⟨Qf hm.out,rfl⟩
section
def Digits (w:World):Prop:=w.cell? ⟨4,0,none⟩=some (.int .u8 16)∧w.cell? ⟨4,1,none⟩=some (.int .u8 15)∧w.cell? ⟨4,2,none⟩=some (.int .u8 9)∧w.cell? ⟨4,3,none⟩=some (.int .u8 6)∧w.cell? ⟨4,4,none⟩=some (.int .u8 1)∧w.cell? ⟨4,5,none⟩=some (.int .u8 255)∧w.cell? ⟨4,6,none⟩=some (.int .u8 153)∧w.cell? ⟨4,7,none⟩=some (.int .u8 96)
theorem Digits.below {w w':World}(h:Digits w)(k:Below w.heap.size w w'):Digits w':=by
 obtain⟨h0,h1,h2,h3,h4,h5,h6,h7⟩:=h
 exact⟨(k.cell (World.block_lt_of_cell? _ _ h0)).trans h0,(k.cell (World.block_lt_of_cell? _ _ h1)).trans h1,(k.cell (World.block_lt_of_cell? _ _ h2)).trans h2,(k.cell (World.block_lt_of_cell? _ _ h3)).trans h3,(k.cell (World.block_lt_of_cell? _ _ h4)).trans h4,(k.cell (World.block_lt_of_cell? _ _ h5)).trans h5,(k.cell (World.block_lt_of_cell? _ _ h6)).trans h6,(k.cell (World.block_lt_of_cell? _ _ h7)).trans h7⟩
theorem QBK {P:Program} {t e:TypeId} {n m:Nat} {fs:Array Field} {cs:Array Value} {k:IntKind} {i:Int} {w:World}(h:P.underlying t=some (.array n e))(he:P.underlying e=some (.struct fs))(hs:(sizeOf e).run P w=.ok m w)(hi:0≤i∧i < n) :
 (Instr.index t (.agg cs) (.int k i)).run P w=.ok (.agg (cs.extract (i.toNat*m) (i.toNat*m+m))) w:=by
 simp[Instr.index,asIntOf,run_underlying h,hi,hs,part,isAgg,run_underlying he]
theorem QT9 (a0 a1 a2 a3 a4 a5 a6 a7:Value)(w:World):(Instr.index 235 (.agg #[a0,a1,a2,a3,a4,a5,a6,a7]) (.int .i64 0)).run Tryz.prog w=.ok (.agg #[a0,a1,a2,a3]) w :=
 QBK (m:=4) Tryz.underlying235 Tryz.underlying234 (by kernel_rfl) (by decide)
theorem QTl (a0 a1 a2 a3 a4 a5 a6 a7:Value)(w:World):(Instr.index 235 (.agg #[a0,a1,a2,a3,a4,a5,a6,a7]) (.int .i64 1)).run Tryz.prog w=.ok (.agg #[a4,a5,a6,a7]) w :=
 QBK (m:=4) Tryz.underlying235 Tryz.underlying234 (by kernel_rfl) (by decide)
attribute [local go_sem ↓] QT9 QTl
theorem QPY:∀ x:Fin 256,bits .and .u8 (x.val:Int) 16=(if isM (x.val:Int) 4 then 16 else 0)∧bits .and .u8 (x.val:Int) 1=(if isM (x.val:Int) 0 then 1 else 0)∧bits .and .u8 (x.val:Int) 15=(x.val:Int)%16∧bits .and .u8 (x.val:Int) 255=(x.val:Int)∧bits .and .u8 (x.val:Int) 2=(if isM (x.val:Int) 1 then 2 else 0):=by decide +kernel
theorem QAH (f:Int)(h:B8 f):bits .and .u8 f 16=(if isM f 4 then 16 else 0)∧bits .and .u8 f 1=(if isM f 0 then 1 else 0)∧bits .and .u8 f 15=f%16∧bits .and .u8 f 255=f∧bits .and .u8 f 2=(if isM f 1 then 2 else 0) :=
 QB (P:=fun f=>bits .and .u8 f 16=(if isM f 4 then 16 else 0)∧bits .and .u8 f 1=(if isM f 0 then 1 else 0)∧bits .and .u8 f 15=f%16∧bits .and .u8 f 255=f∧bits .and .u8 f 2=(if isM f 1 then 2 else 0)) QPY f h.1 h.2
def QFK (a f:Int):Int:=(if QEg a f then 16 else 0)+(if zI a f then 1 else 0)
theorem QT3:bits .or .u8 0 16=16∧bits .or .u8 16 1=17∧bits .or .u8 0 1=1:=by decide +kernel
theorem QDK (a f:Int)(ha:B8 a)(hf:B8 f)(w:World)(hd:Digits w) :
 Calls Tryz.prog 323 #[.int .u8 a,.int .u8 f] w fun e w'=>e=.returned (two (byM a f) (QFK a f))∧Below w.heap.size w w':=by
 obtain⟨d0,d1,d2,d3,d4,d5,d6,d7⟩:=hd
 obtain⟨k1,k2,_,_,_⟩:=QAH f hf
 obtain⟨_,_,k3,k4,_⟩:=QAH a ha
 obtain⟨o1,o2,o3⟩:=QT3
 have a0:=ha.1
 have a1:=ha.2
 by_cases c2:9 < a%16<;>by_cases c4:153 < a<;>cases c1:isM f 4<;>cases c3:isM f 0
 all_goals
  rw[c1] at k1
  rw[c3] at k2
  simp only[if_true,if_false,Bool.false_eq_true] at k1 k2
  have hb:byM a f=(if isM f 4||decide (9 < a%16) then 6 else 0)+(if isM f 0||decide (153 < a) then 96 else 0):=rfl
  have hw:QFK a f=(if isM f 4||decide (9 < a%16) then 16 else 0)+(if isM f 0||decide (153 < a) then 1 else 0):=rfl
  first|rw[c1,c3,decide_eq_true c2,decide_eq_true c4] at hb hw|rw[c1,c3,decide_eq_true c2,decide_eq_false c4] at hb hw|rw[c1,c3,decide_eq_false c2,decide_eq_true c4] at hb hw|rw[c1,c3,decide_eq_false c2,decide_eq_false c4] at hb hw
  have hb:=Lib.hid hb
  have hw:=Lib.hid hw
  clear c1 c3
  go_enter Tryz.func323,Tryz.ntmps323
  go_wp2
  refine wp_loop_rounds 3 ?_
  iterate 3 (rw[rounds_succ];go_wp2)
  go_ret2
  exact⟨by rw[hb.out,hw.out];rfl,(by repeat (first|exact Below.refl _ _|assumption|refine JZ ?_ (by assumption)|refine Below.drew ?_|refine Below.alloc ?_ (by first|(simp;done)|(simp;omega)|omega) _|refine Below.setCell ?_ (by first|(simp;done)|(simp;omega)|omega) _))⟩
theorem QPD:∀ b0 b1 b2 b4 b5 n h c:Bool,bits .or .u8 (bits .or .u8 (bits .or .u8 (mkM b0 b1 b2 false b4 b5 false false) (if n then 2 else 0)) (if h then 16 else 0)) (if c then 1 else 0)=mkM b0 b1 b2 h b4 b5 n c:=by decide +kernel
theorem QMh (a f:Int):bits .and .u8 (QFK a f) 1=if zI a f then 1 else 0:=by
 unfold QFK
 generalize QEg a f=x
 generalize zI a f=y
 revert x y
 decide +kernel
theorem QOx (a f:Int)(ha:B8 a)(hf:B8 f) :
 bits .or .u8 (bits .or .u8 (bits .or .u8 (Jn (Xj a f)) (bits .and .u8 f 2)) (bits .and .u8 (bits .xor .u8 a (Xj a f)) 16)) (bits .and .u8 (QFK a f) 1)=QDe a f:=by
 have hr:=jU a f
 have hx:=QI9 a (Xj a f) ha.1 ha.2 hr.1 hr.2
 rw[(QAH f hf).2.2.2.2,(QAH _ hx).1,QMh]
 have i:=QK2 a (Xj a f) 4 (by omega) ha.1 ha.2 hr.1 hr.2
 rw[show isM (bits .xor .u8 a (Xj a f)) 4=(isM a 4 != isM (Xj a f) 4) from by simpa using i]
 exact QPD _ _ _ _ _ _ _ _
theorem QRI (a f:Int)(ha:B8 a)(hf:B8 f)(w:World)(hd:Digits w) :
 Calls Tryz.prog 288 #[.int .u8 a,.int .u8 f] w fun e w'=>e=.returned (two (Xj a f) (QDe a f))∧Below w.heap.size w w':=by
 have hm:=QOx a f ha hf
 have hr:=jU a f
 have hy:=QOr a f
 have k:=(QAH f hf).2.2.2.2
 have a0:=ha.1
 have a1:=ha.2
 cases c:isM f 1
 · have e:Xj a f=(a+byM a f)%256:=by unfold Xj;rw[c];rfl
   rw[c] at k
   simp only[if_false,Bool.false_eq_true] at k
   rw[k,e] at hm
   rw[e] at hr ⊢
   have hm:=Lib.hid hm
   clear e c
   go_enter Tryz.func288,Tryz.ntmps288
   go_wp2_with (first
    | (go_at_call 323;refine (QDK _ _ (by assumption) (by assumption) _ hd).mono ?_;rintro e w' ⟨rfl,hb⟩;have hsz:=hb.size)
    | (go_at_call 254;refine (ZO _ (B8.lo (by assumption)) (B8.hi (by assumption)) _).mono ?_;rintro e w' ⟨rfl,hb⟩;have hsz:=hb.size))
   go_ret2
   exact⟨by rw[←hm.out];rfl,(by repeat (first|exact Below.refl _ _|assumption|refine JZ ?_ (by assumption)|refine Below.drew ?_|refine Below.alloc ?_ (by first|(simp;done)|(simp;omega)|omega) _|refine Below.setCell ?_ (by first|(simp;done)|(simp;omega)|omega) _))⟩
 · have e:Xj a f=(a-byM a f)%256:=by unfold Xj;rw[c];rfl
   rw[c] at k
   simp only[if_true] at k
   rw[k,e] at hm
   rw[e] at hr ⊢
   have hm:=Lib.hid hm
   clear e c
   go_enter Tryz.func288,Tryz.ntmps288
   go_wp2_with (first
    | (go_at_call 323;refine (QDK _ _ (by assumption) (by assumption) _ hd).mono ?_;rintro e w' ⟨rfl,hb⟩;have hsz:=hb.size)
    | (go_at_call 254;refine (ZO _ (B8.lo (by assumption)) (B8.hi (by assumption)) _).mono ?_;rintro e w' ⟨rfl,hb⟩;have hsz:=hb.size))
   go_ret2
   exact⟨by rw[←hm.out];rfl,(by repeat (first|exact Below.refl _ _|assumption|refine JZ ?_ (by assumption)|refine Below.drew ?_|refine Below.alloc ?_ (by first|(simp;done)|(simp;omega)|omega) _|refine Below.setCell ?_ (by first|(simp;done)|(simp;omega)|omega) _))⟩
end
theorem QG7 (W:World)(o o':Obj):({ W.alloc o with heap:=(W.alloc o).heap.setIfInBounds W.heap.size o' }:World)=W.alloc o':=by
 have e:(W.heap.push o).setIfInBounds W.heap.size o'=W.heap.push o':=by
  apply Array.ext
  · simp
  · intro i h1 h2
    simp at h1 h2
    by_cases hi:i=W.heap.size
    · subst hi;simp
    · rw[Array.getElem_setIfInBounds,Array.getElem_push_lt (by omega),Array.getElem_push_lt (by omega),if_neg (by omega)]
      simpa using h1
 show ({ W with heap:=(W.heap.push o).setIfInBounds W.heap.size o' }:World)={ W with heap:=W.heap.push o' }
 rw[e]
theorem Jl {P:Program}(W:World)(t kt et:TypeId)(ht:P.underlying t=some (.map kt et))(hk:P.underlying kt=some (.int .i64))(es:List MapEntry)(clock:Nat)(n:Int)(val:Value)(b:Nat)
 (hb:b=W.heap.size)(hnew:Instr.findNow (.int .i64) (.int .i64 n) es 0=some none) :
 (Instr.mapUpdate t (.map (some b)) (.int .i64 n) val).run P (W.alloc (.map es.toArray clock))=.ok () (W.alloc (.map (es++[({ key:=.int .i64 n,val:=val,born:=clock }:MapEntry)]).toArray (clock+1))):=by
 subst hb
 have hb:=(MapKept.heap_alloc W (.map es.toArray clock)).1
 simp[Instr.mapUpdate,run_underlying ht,MapKept.run_getObj_map hb,MapKept.run_checkKey hk (k:=.int .i64 n) (by simp[MapKept.IsKey]) false 9999,MapKept.run_findKey hk hnew,MapKept.run_setObj_map _ hb,Result.andThen]
 exact QG7 W _ _
theorem QR {P:Program} {W:World} {t kt et:TypeId}(ht:P.underlying t=some (.map kt et))(hk:P.underlying kt=some (.int .i64)){es:Array MapEntry} {clock M:Nat}(hb:W.heap[M]? = some (.map es clock)){n:Int} {j:Nat} {v:Value}
 (hf:Instr.findNow (.int .i64) (.int .i64 n) es.toList 0=some (some (j,v))):(Instr.lookup t (.map (some M)) (.int .i64 n) true).run P W=.ok (.tuple #[v,.bool true]) W:=by
 simp[Instr.lookup,run_underlying ht,MapKept.run_getObj_map hb,MapKept.run_checkKey hk (k:=.int .i64 n) (by simp[MapKept.IsKey]) _ 9999,MapKept.run_findKey hk hf,Result.andThen]
theorem qr {P:Program} {W:World} {t kt et:TypeId}(ht:P.underlying t=some (.map kt et))(hk:P.underlying kt=some (.int .i64)){es:Array MapEntry} {clock M:Nat}(hb:W.heap[M]? = some (.map es clock)){n:Int} {z:Value}
 (hf:Instr.findNow (.int .i64) (.int .i64 n) es.toList 0=some none)(hz:(zeroValue et).run P W=.ok z W):(Instr.lookup t (.map (some M)) (.int .i64 n) true).run P W=.ok (.tuple #[z,.bool false]) W:=by
 simp[Instr.lookup,run_underlying ht,MapKept.run_getObj_map hb,MapKept.run_checkKey hk (k:=.int .i64 n) (by simp[MapKept.IsKey]) _ 9999,MapKept.run_findKey hk hf,hz,Result.andThen]
end Go.Proofs.YtkenebbjodcbcaaGreatDoor
