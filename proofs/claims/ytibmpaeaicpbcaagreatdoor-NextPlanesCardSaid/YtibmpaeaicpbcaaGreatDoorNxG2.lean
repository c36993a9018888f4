/- Contracts and facts that the claim's proof wants (several texts in one). -/
import Derived.WalkKit
import Derived.Deep.RegionHeld3
import Derived.Laws.EntriesVeiled
import Derived.Maps.Own
import Derived.Deep.DeepHandedRow
import Derived.Lib.Hide
import Derived.BigQuiet
import Derived.Deep.DeepCutAuto
import Derived.Deep.QuietTactic
import Derived.StillTailTactics
import Derived.Test.YtibmpaeaicpbcaaGreatDoorNxG1
namespace Go.Proofs.YtibmpaeaicpbcaaGreatDoor
open Go.RowKit
set_option linter.unusedVariables false
set_option linter.unusedSimpArgs false
set_option maxRecDepth 20000
set_option maxHeartbeats 20000000
section
variable {P : Program} {a : Act} {o : Oper} {x y : Operand} {V W R : Value}
theorem heMove (ho : o.op = .move x ∨ o.op = .assign x) (hx : a.eval x = V) (w : World) : (execOp a.eval o).run P w = .ok (.value V) w := by
  unfold execOp
  rcases ho with ho | ho <;> simp only [ho, hx, Sem.run_pure]
theorem heNil {ad : Addr} (ho : o.op = .nilCheck x) (hx : a.eval x = .pointer (some ad)) (w : World) : (execOp a.eval o).run P w = .ok (.value (.pointer (some ad))) w := by
  unfold execOp
  simp only [ho, hx, Sem.run_pure]
theorem heField {t : TypeId} {f : Nat} (ho : o.op = .fieldAddr t x f) (hx : a.eval x = V) (hf : ∀ w, (Instr.fieldAt t V f).run P w = .ok R w) (w : World) : (execOp a.eval o).run P w = .ok (.value R) w := by
  unfold execOp
  simp only [ho, hx, Sem.run_bind, Sem.run_pure, hf, Result.andThen_ok]
theorem heLoad {t : TypeId} {ad : Addr} {w : World} (ho : o.op = .load t x) (hx : a.eval x = .pointer (some ad)) (hl : (Instr.loadAt t (.pointer (some ad))).run P w = .ok V w) : (execOp a.eval o).run P w = .ok (.value V) w := by
  unfold execOp
  simp only [ho, hx, Sem.run_bind, Sem.run_pure, hl, Result.andThen_ok]
theorem heStore {t : TypeId} {ad : Addr} {w w' : World} (ho : o.op = .store t x y) (hx : a.eval x = .pointer (some ad)) (hy : a.eval y = V) (hl : (Instr.storeAt t (.pointer (some ad)) V).run P w = .ok () w') : (execOp a.eval o).run P w = .ok .skip w' := by
  unfold execOp
  simp only [ho, hx, hy, Sem.run_bind, Sem.run_pure, hl, Result.andThen_ok]
theorem heBin {op : BinOp} {t r : TypeId} (ho : o.op = .binOp op t x y r) (hx : a.eval x = V) (hy : a.eval y = W) (hg : ∀ w, (eqGuard op t x y V W).run P w = .ok () w) (hb : ∀ w, (binOp op t V W).run P w = .ok R w) (w : World) : (execOp a.eval o).run P w = .ok (.value R) w := by
  unfold execOp
  simp only [ho, hx, hy, Sem.run_bind, Sem.run_pure, hg, hb, Result.andThen_ok]
theorem heUn {op : UnOp} {t : TypeId} (ho : o.op = .unOp op t x) (hx : a.eval x = V) (hb : ∀ w, (Op.unary op V).run P w = .ok R w) (w : World) : (execOp a.eval o).run P w = .ok (.value R) w := by
  unfold execOp
  simp only [ho, hx, Sem.run_bind, Sem.run_pure, hb, Result.andThen_ok]
theorem hePick {c : Operand} {b : Bool} (ho : o.op = .pick c x y) (hc : a.eval c = .bool b) (hv : (if b = true then a.eval x else a.eval y) = V) (w : World) : (execOp a.eval o).run P w = .ok (.value V) w := by
  unfold execOp
  simp only [ho, hc, ← hv, asBool, Sem.run_bind, Sem.run_pure, Result.andThen_ok]
theorem heBuild {t : TypeId} {parts : Array (Nat × Operand)} {cells : Array Value} (ho : o.op = .build t parts) (hc : P.built t (parts.map fun (i, x) => (i, a.eval x)).toList = some cells) (w : World) : (execOp a.eval o).run P w = .ok (.value (.agg cells)) w := by
  unfold execOp
  simp only [ho, Sem.run_bind, run_build w t _ cells hc, Result.andThen_ok, Sem.run_pure]
theorem heExtract {i : Nat} {vs : Array Value} (ho : o.op = .extract x i) (hx : a.eval x = .tuple vs) (hi : vs[i]? = some V) (w : World) : (execOp a.eval o).run P w = .ok (.value V) w := by
  unfold execOp
  simp [ho, hx, Instr.extract, hi]
theorem heIndex {t : TypeId} {w : World} (ho : o.op = .indexAddr t x y) (hx : a.eval x = V) (hy : a.eval y = W) (hl : (Instr.indexAt t V W).run P w = .ok R w) : (execOp a.eval o).run P w = .ok (.value R) w := by
  unfold execOp
  simp only [ho, hx, hy, Sem.run_bind, Sem.run_pure, hl, Result.andThen_ok]
end
theorem ld8 {w : World} {ad : Addr} {V : Value} (h : w.cell? ad = some V) : (Instr.loadAt 5 (.pointer (some ad))).run Tryz.prog w = .ok V w := by simp [go_sem, h]
theorem ld16 {w : World} {ad : Addr} {V : Value} (h : w.cell? ad = some V) : (Instr.loadAt 22 (.pointer (some ad))).run Tryz.prog w = .ok V w := by simp [go_sem, h]
theorem ldI {w : World} {ad : Addr} {V : Value} (h : w.cell? ad = some V) : (Instr.loadAt 3 (.pointer (some ad))).run Tryz.prog w = .ok V w := by simp [go_sem, h]
theorem ldB {w : World} {ad : Addr} {V : Value} (h : w.cell? ad = some V) : (Instr.loadAt 4 (.pointer (some ad))).run Tryz.prog w = .ok V w := by simp [go_sem, h]
theorem ldS {w : World} {ad : Addr} {V : Value} (h : w.cell? ad = some V) : (Instr.loadAt 25 (.pointer (some ad))).run Tryz.prog w = .ok V w := by simp [go_sem, h]
theorem st8 {w : World} {ad : Addr} {V : Value} {v : Int} (h : w.cell? ad = some V) (hz : w.frozen? ad = false) : (Instr.storeAt 5 (.pointer (some ad)) (.int .u8 v)).run Tryz.prog w = .ok () (w.setCell ad (.int .u8 v)) := by simp [go_sem, h, hz]
theorem st16 {w : World} {ad : Addr} {V : Value} {v : Int} (h : w.cell? ad = some V) (hz : w.frozen? ad = false) : (Instr.storeAt 22 (.pointer (some ad)) (.int .u16 v)).run Tryz.prog w = .ok () (w.setCell ad (.int .u16 v)) := by simp [go_sem, h, hz]
theorem stI {w : World} {ad : Addr} {V : Value} {v : Int} (h : w.cell? ad = some V) (hz : w.frozen? ad = false) : (Instr.storeAt 3 (.pointer (some ad)) (.int .i64 v)).run Tryz.prog w = .ok () (w.setCell ad (.int .i64 v)) := by simp [go_sem, h, hz]
theorem stB {w : World} {ad : Addr} {V : Value} {v : Bool} (h : w.cell? ad = some V) (hz : w.frozen? ad = false) : (Instr.storeAt 4 (.pointer (some ad)) (.bool v)).run Tryz.prog w = .ok () (w.setCell ad (.bool v)) := by simp [go_sem, h, hz]
theorem infoRg : (Tryz.prog.info? 24).map (·.size) = some 20 := by kernel_rfl
theorem ldR {w : World} {b o : Nat} {g : Rg} (h : w.rangeAt b o (regsC g).toList) : (Instr.loadAt 24 (.pointer (some ⟨b, o, none⟩))).run Tryz.prog w = .ok (regsV g) w :=
  run_loadAt_mid w b o 24 (regsC g).toList _ h Tryz.underlying24 rfl infoRg
theorem stR {w : World} {b o : Nat} {g : Rg} (h : w.there b o (regsC g).size) : (Instr.storeAt 24 (.pointer (some ⟨b, o, none⟩)) (regsV g)).run Tryz.prog w = .ok () (w.setCells b o (regsC g).toList) :=
  run_storeAt_mid w b o 24 (regsC g) h infoRg (by simp [regsC, Value.oneCell'])
theorem egI (op : BinOp) (x y : Operand) (a b : Int) (w : World) : (eqGuard op 3 x y (.int .i64 a) (.int .i64 b)).run Tryz.prog w = .ok () w := by simp [go_sem]
theorem eg8 (op : BinOp) (x y : Operand) (a b : Int) (w : World) : (eqGuard op 5 x y (.int .u8 a) (.int .u8 b)).run Tryz.prog w = .ok () w := by simp [go_sem]
theorem eg16 (op : BinOp) (x y : Operand) (a b : Int) (w : World) : (eqGuard op 22 x y (.int .u16 a) (.int .u16 b)).run Tryz.prog w = .ok () w := by simp [go_sem]
theorem bEqI (x y : Int) (w : World) : (binOp .eql 3 (.int .i64 x) (.int .i64 y)).run Tryz.prog w = .ok (.bool (x == y)) w := by simp [go_sem]
theorem bNeI (x y : Int) (w : World) : (binOp .neq 3 (.int .i64 x) (.int .i64 y)).run Tryz.prog w = .ok (.bool (x != y)) w := by simp [go_sem, bne]
theorem bEq8 (x y : Int) (w : World) : (binOp .eql 5 (.int .u8 x) (.int .u8 y)).run Tryz.prog w = .ok (.bool (x == y)) w := by simp [go_sem]
theorem bLtI (x y : Int) (w : World) : (binOp .lss 3 (.int .i64 x) (.int .i64 y)).run Tryz.prog w = .ok (.bool (decide (x < y))) w := by simp [go_sem]
theorem bAdd16 (x y : Int) (w : World) : (binOp .add 22 (.int .u16 x) (.int .u16 y)).run Tryz.prog w = .ok (.int .u16 ((x + y) % 65536)) w := by simp [go_sem, IntKind.wrap_u16]
theorem bAdd8 (x y : Int) (w : World) : (binOp .add 5 (.int .u8 x) (.int .u8 y)).run Tryz.prog w = .ok (.int .u8 ((x + y) % 256)) w := by simp [go_sem, IntKind.wrap_u8]
theorem bAnd8 (x y : Int) (w : World) : (binOp .and 5 (.int .u8 x) (.int .u8 y)).run Tryz.prog w = .ok (.int .u8 (bits .and .u8 x y)) w := by simp [go_sem]
theorem bOr8 (x y : Int) (w : World) : (binOp .or 5 (.int .u8 x) (.int .u8 y)).run Tryz.prog w = .ok (.int .u8 (bits .or .u8 x y)) w := by simp [go_sem]
theorem bSubI (x y : Int) (h : -9223372036854775808 ≤ x - y) (h' : x - y ≤ 9223372036854775807) (w : World) : (binOp .sub 3 (.int .i64 x) (.int .i64 y)).run Tryz.prog w = .ok (.int .i64 (x - y)) w := by
  have e : IntKind.i64.wrap (x - y) = x - y := by rw [IntKind.wrap_i64]; omega
  simp [go_sem, e]
theorem bMulI (x y : Int) (h : -9223372036854775808 ≤ x * y) (h' : x * y ≤ 9223372036854775807) (w : World) : (binOp .mul 3 (.int .i64 x) (.int .i64 y)).run Tryz.prog w = .ok (.int .i64 (x * y)) w := by
  have e : IntKind.i64.wrap (x * y) = x * y := by rw [IntKind.wrap_i64]; omega
  simp [go_sem, e]
theorem uNot (b : Bool) (w : World) : (Op.unary .not (.bool b)).run Tryz.prog w = .ok (.bool (!b)) w := by rfl
section
variable {P : Program} {ops : Array Oper} {Q : Exit → Act → World → Prop} {a : Act} {w : World} {o : Oper} {rest : List Oper} {x y : Operand} {W : Value}
theorem wantedN (hg : o.guard = none) : Region.wanted o (yielded ops a.tmps) = true := by simp only [Region.wanted, hg]
theorem sMove (d : Tmp) (V : Value) (hd : o.dst = some d) (hg : o.guard = none) (ho : o.op = .move x ∨ o.op = .assign x) (hx : a.eval x = V) (h : WL P ops Q rest (a.put (some d) V) w) : WL P ops Q (o :: rest) a w :=
  list_take d V hd (wantedN hg) (heMove ho hx w) h
theorem sNil (d : Tmp) (ad : Addr) (hd : o.dst = some d) (hg : o.guard = none) (ho : o.op = .nilCheck x) (hx : a.eval x = .pointer (some ad)) (h : WL P ops Q rest (a.put (some d) (.pointer (some ad))) w) : WL P ops Q (o :: rest) a w :=
  list_take d _ hd (wantedN hg) (heNil ho hx w) h
theorem sField (d : Tmp) (V R : Value) {t : TypeId} {f : Nat} (hd : o.dst = some d) (hg : o.guard = none) (ho : o.op = .fieldAddr t x f) (hx : a.eval x = V) (hf : ∀ w, (Instr.fieldAt t V f).run P w = .ok R w) (h : WL P ops Q rest (a.put (some d) R) w) : WL P ops Q (o :: rest) a w :=
  list_take d R hd (wantedN hg) (heField ho hx hf w) h
theorem sLoad (d : Tmp) (ad : Addr) (V : Value) {t : TypeId} (hd : o.dst = some d) (hg : o.guard = none) (ho : o.op = .load t x) (hx : a.eval x = .pointer (some ad)) (hl : (Instr.loadAt t (.pointer (some ad))).run P w = .ok V w) (h : WL P ops Q rest (a.put (some d) V) w) : WL P ops Q (o :: rest) a w :=
  list_take d V hd (wantedN hg) (heLoad ho hx hl) h
theorem sStore (ad : Addr) (V : Value) {t : TypeId} {w' : World} (hd : o.dst = none) (hg : o.guard = none) (ho : o.op = .store t x y) (hx : a.eval x = .pointer (some ad)) (hy : a.eval y = V) (hl : (Instr.storeAt t (.pointer (some ad)) V).run P w = .ok () w') (h : WL P ops Q rest (a.put none undef) w') : WL P ops Q (o :: rest) a w :=
  list_do hd (wantedN hg) (heStore ho hx hy hl) h
theorem sBin (d : Tmp) (V W R : Value) {op : BinOp} {t r : TypeId} (hd : o.dst = some d) (hg : o.guard = none) (ho : o.op = .binOp op t x y r) (hx : a.eval x = V) (hy : a.eval y = W) (hgd : ∀ w, (eqGuard op t x y V W).run P w = .ok () w) (hb : ∀ w, (binOp op t V W).run P w = .ok R w) (h : WL P ops Q rest (a.put (some d) R) w) : WL P ops Q (o :: rest) a w :=
  list_take d R hd (wantedN hg) (heBin ho hx hy hgd hb w) h
theorem sUn (d : Tmp) (V R : Value) {op : UnOp} {t : TypeId} (hd : o.dst = some d) (hg : o.guard = none) (ho : o.op = .unOp op t x) (hx : a.eval x = V) (hb : ∀ w, (Op.unary op V).run P w = .ok R w) (h : WL P ops Q rest (a.put (some d) R) w) : WL P ops Q (o :: rest) a w :=
  list_take d R hd (wantedN hg) (heUn ho hx hb w) h
theorem sPick (d : Tmp) (V : Value) (b : Bool) {c : Operand} (hd : o.dst = some d) (hg : o.guard = none) (ho : o.op = .pick c x y) (hc : a.eval c = .bool b) (hv : (if b = true then a.eval x else a.eval y) = V) (h : WL P ops Q rest (a.put (some d) V) w) : WL P ops Q (o :: rest) a w :=
  list_take d V hd (wantedN hg) (hePick ho hc hv w) h
theorem sBuild (d : Tmp) (cells : Array Value) {t : TypeId} {parts : Array (Nat × Operand)} (hd : o.dst = some d) (hg : o.guard = none) (ho : o.op = .build t parts) (hc : P.built t (parts.map fun (i, x) => (i, a.eval x)).toList = some cells) (h : WL P ops Q rest (a.put (some d) (.agg cells)) w) : WL P ops Q (o :: rest) a w :=
  list_take d _ hd (wantedN hg) (heBuild ho hc w) h
theorem sExtract (d : Tmp) (vs : Array Value) (V : Value) {i : Nat} (hd : o.dst = some d) (hg : o.guard = none) (ho : o.op = .extract x i) (hx : a.eval x = .tuple vs) (hi : vs[i]? = some V) (h : WL P ops Q rest (a.put (some d) V) w) : WL P ops Q (o :: rest) a w :=
  list_take d V hd (wantedN hg) (heExtract ho hx hi w) h
theorem sIndex (d : Tmp) (V W R : Value) {t : TypeId} (hd : o.dst = some d) (hg : o.guard = none) (ho : o.op = .indexAddr t x y) (hx : a.eval x = V) (hy : a.eval y = W) (hl : (Instr.indexAt t V W).run P w = .ok R w) (h : WL P ops Q rest (a.put (some d) R) w) : WL P ops Q (o :: rest) a w :=
  list_take d R hd (wantedN hg) (heIndex ho hx hy hl) h
theorem sCallO (V : Value) {g : FuncId} {args : Array Value} {N : World → Prop} (hg : o.guard = none) (he : (execOp a.eval o).run P w = .ok (.enter g args) w) (hc : Calls P g args w fun e w' => e = .returned V ∧ N w')
    (h : ∀ w', N w' → WL P ops Q rest (a.put o.dst V) w') : WL P ops Q (o :: rest) a w :=
  list_call (wantedN hg) he hc fun e w' ⟨h1, h2⟩ => by subst h1; exact h w' h2
theorem thenN {next : Act → World → Prop} (h : next a w) : Exit.then next Q .normal a w := h
theorem thenR {next : Act → World → Prop} (h : Q .ret a w) : Exit.then next Q .ret a w := h
theorem thenX {next : Act → World → Prop} {c : List PanicEntry} (h : Q (.panic c) a w) : Exit.then next Q (.panic c) a w := h
theorem thenE {next : Act → World → Prop} {i : Nat} (h : Q (.exit i) a w) : Exit.then next Q (.exit i) a w := h
theorem blockN {i : Nat} (h : Q .normal a w) : Exit.inBlock i Q .normal a w := h
theorem blockR {i : Nat} (h : Q .ret a w) : Exit.inBlock i Q .ret a w := h
theorem blockX {i : Nat} {c : List PanicEntry} (h : Q (.panic c) a w) : Exit.inBlock i Q (.panic c) a w := h
theorem blockE {i : Nat} (h : Q .normal a w) : Exit.inBlock i Q (.exit i) a w := by simp only [Exit.inBlock, if_true]; exact h
theorem endV {fn : Func} {R : Ending → World → Prop} (h : fn.results = #[]) (hd : a.defers = []) (hR : R (.returned (.tuple #[])) w) : bodyPost P fn R .normal a w := bodyPost_end (results_none h _ _ _) hd hR
theorem retV {fn : Func} {R : Ending → World → Prop} (h : fn.results = #[]) (hd : a.defers = []) (hR : R (.returned (.tuple #[])) w) : bodyPost P fn R .ret a w := bodyPost_ret (results_none h _ _ _) hd hR
theorem retI {fn : Func} {R : Ending → World → Prop} (t : Tmp) (V : Value) (h : fn.results = #[.tmp t]) (hv : a.tmps.getD t undef = V) (hd : a.defers = []) (hR : R (.returned V) w) : bodyPost P fn R .ret a w := bodyPost_ret (by rw [results_tmp h, hv]) hd hR
theorem panicP {fn : Func} {R : Ending → World → Prop} {c : List PanicEntry} (hd : a.defers = []) (hR : R (.panicked c) w) : bodyPost P fn R (.panic c) a w := ⟨hd, hR⟩
end
section
variable {α β : Type}
theorem run_if_pos {c : Prop} [Decidable c] {t e : Tr α} {xs : List Int} (hc : c) : (if c then t else e).run xs = t.run xs := by rw [if_pos hc]
theorem run_if_neg {c : Prop} [Decidable c] {t e : Tr α} {xs : List Int} (hc : ¬ c) : (if c then t else e).run xs = e.run xs := by rw [if_neg hc]
theorem run_bif_pos {c : Prop} [Decidable c] {t e : Tr α} {f : α → Tr β} {xs : List Int} (hc : c) : ((if c then t else e).bind f).run xs = (t.bind f).run xs := by rw [if_pos hc]
theorem run_bif_neg {c : Prop} [Decidable c] {t e : Tr α} {f : α → Tr β} {xs : List Int} (hc : ¬ c) : ((if c then t else e).bind f).run xs = (e.bind f).run xs := by rw [if_neg hc]
theorem Wd16.mod (x : Int) : Wd16 (x % 65536) := ⟨by omega, by omega⟩
theorem B8.mod (x : Int) : B8 (x % 256) := ⟨by omega, by omega⟩
end
@[reducible] def pT (b k : Nat) : Value := .pointer (some ⟨b, k, none⟩)
theorem sA {α : Type} (l : List α) (i : Nat) (a : α) : l.toArray.setIfInBounds i a = (l.set i a).toArray := List.setIfInBounds_toArray l i a
theorem sB {α : Type} (x a : α) (l : List α) : (x :: l).set 0 a = a :: l := List.set_cons_zero
theorem sC {α : Type} (x a : α) (l : List α) (i : Nat) : (x :: l).set (i + 1) a = x :: l.set i a := List.set_cons_succ
section
variable {P : Program} {ops : Array Oper} {Q : Exit → Act → World → Prop} {a : Act} {w : World} {o : Oper} {rest : List Oper} {x y : Operand} {V W R : Value} {t r : TypeId}
theorem oM (d : Tmp) (V : Value) (h : WL P ops Q rest (a.put (some d) V) w) (hd : o.dst = some d := by exact rfl) (hg : o.guard = none := by exact rfl) (ho : o.op = .move x := by exact rfl) (hx : a.eval x = V := by kernel_rfl) : WL P ops Q (o :: rest) a w := sMove d V hd hg (.inl ho) hx h
theorem oA (d : Tmp) (V : Value) (h : WL P ops Q rest (a.put (some d) V) w) (hd : o.dst = some d := by exact rfl) (hg : o.guard = none := by exact rfl) (ho : o.op = .assign x := by exact rfl) (hx : a.eval x = V := by kernel_rfl) : WL P ops Q (o :: rest) a w := sMove d V hd hg (.inr ho) hx h
theorem oN (d : Tmp) (p k : Nat) (h : WL P ops Q rest (a.put (some d) (pT p k)) w) (hd : o.dst = some d := by exact rfl) (hg : o.guard = none := by exact rfl) (ho : o.op = .nilCheck x := by exact rfl) (hx : a.eval x = pT p k := by kernel_rfl) : WL P ops Q (o :: rest) a w := sNil d ⟨p, k, none⟩ hd hg ho hx h
theorem oF (d : Tmp) {f : Nat} (hf : ∀ w, (Instr.fieldAt t V f).run P w = .ok R w) (h : WL P ops Q rest (a.put (some d) R) w) (hd : o.dst = some d := by exact rfl) (hg : o.guard = none := by exact rfl) (ho : o.op = .fieldAddr t x f := by exact rfl) (hx : a.eval x = V := by kernel_rfl) : WL P ops Q (o :: rest) a w := sField d V R hd hg ho hx hf h
theorem oL (d : Tmp) {ad : Addr} (hl : (Instr.loadAt t (.pointer (some ad))).run P w = .ok V w) (h : WL P ops Q rest (a.put (some d) V) w) (hd : o.dst = some d := by exact rfl) (hg : o.guard = none := by exact rfl) (ho : o.op = .load t x := by exact rfl) (hx : a.eval x = .pointer (some ad) := by kernel_rfl) : WL P ops Q (o :: rest) a w := sLoad d ad V hd hg ho hx hl h
theorem oB (d : Tmp) {op : BinOp} (hgd : ∀ w, (eqGuard op t x y V W).run P w = .ok () w) (hb : ∀ w, (binOp op t V W).run P w = .ok R w) (h : WL P ops Q rest (a.put (some d) R) w) (hd : o.dst = some d := by exact rfl) (hg : o.guard = none := by exact rfl) (ho : o.op = .binOp op t x y r := by exact rfl) (hx : a.eval x = V := by kernel_rfl) (hy : a.eval y = W := by kernel_rfl) : WL P ops Q (o :: rest) a w := sBin d V W R hd hg ho hx hy hgd hb h
theorem oJ (d : Tmp) (V W R : Value) {op : BinOp} (hgd : ∀ w, (eqGuard op t x y V W).run P w = .ok () w) (hb : ∀ w, (binOp op t V W).run P w = .ok R w) (h : WL P ops Q rest (a.put (some d) R) w) (hd : o.dst = some d := by exact rfl) (hg : o.guard = none := by exact rfl) (ho : o.op = .binOp op t x y r := by exact rfl) (hx : a.eval x = V := by kernel_rfl) (hy : a.eval y = W := by kernel_rfl) : WL P ops Q (o :: rest) a w := sBin d V W R hd hg ho hx hy hgd hb h
theorem oP (d : Tmp) (V : Value) (b : Bool) {c : Operand} (h : WL P ops Q rest (a.put (some d) V) w) (hd : o.dst = some d := by exact rfl) (hg : o.guard = none := by exact rfl) (ho : o.op = .pick c x y := by exact rfl) (hc : a.eval c = .bool b := by kernel_rfl) (hv : (if b = true then a.eval x else a.eval y) = V := by kernel_rfl) : WL P ops Q (o :: rest) a w := sPick d V b hd hg ho hc hv h
theorem oX (d : Tmp) (vs : Array Value) (V : Value) {i : Nat} (h : WL P ops Q rest (a.put (some d) V) w) (hd : o.dst = some d := by exact rfl) (hg : o.guard = none := by exact rfl) (ho : o.op = .extract x i := by exact rfl) (hx : a.eval x = .tuple vs := by kernel_rfl) (hi : vs[i]? = some V := by kernel_rfl) : WL P ops Q (o :: rest) a w := sExtract d vs V hd hg ho hx hi h
theorem oS (ad : Addr) (V : Value) {w' : World} (hl : (Instr.storeAt t (.pointer (some ad)) V).run P w = .ok () w') (h : WL P ops Q rest (a.put none undef) w') (hd : o.dst = none := by exact rfl) (hg : o.guard = none := by exact rfl) (ho : o.op = .store t x y := by exact rfl) (hx : a.eval x = .pointer (some ad) := by kernel_rfl) (hy : a.eval y = V := by kernel_rfl) : WL P ops Q (o :: rest) a w := sStore ad V hd hg ho hx hy hl h
theorem oU (d : Tmp) (cells : Array Value) {parts : Array (Nat × Operand)} (h : WL P ops Q rest (a.put (some d) (.agg cells)) w) (hd : o.dst = some d := by exact rfl) (hg : o.guard = none := by exact rfl) (ho : o.op = .build t parts := by exact rfl) (hc : P.built t (parts.map fun (i, x) => (i, a.eval x)).toList = some cells := by kernel_rfl) : WL P ops Q (o :: rest) a w := sBuild d cells hd hg ho hc h
theorem oI (d : Tmp) (V W R : Value) (hl : (Instr.indexAt t V W).run P w = .ok R w) (h : WL P ops Q rest (a.put (some d) R) w) (hd : o.dst = some d := by exact rfl) (hg : o.guard = none := by exact rfl) (ho : o.op = .indexAddr t x y := by exact rfl) (hx : a.eval x = V := by kernel_rfl) (hy : a.eval y = W := by kernel_rfl) : WL P ops Q (o :: rest) a w := sIndex d V W R hd hg ho hx hy hl h
theorem oZ (d : Tmp) (h : WL P ops Q rest (a.put (some d) undef) w) (hd : o.dst = some d := by exact rfl) (hw : Region.wanted o (yielded ops a.tmps) = false := by kernel_rfl) : WL P ops Q (o :: rest) a w := list_skip d hd hw h
theorem oT (d : Tmp) (V : Value) (he : (execOp a.eval o).run P w = .ok (.value V) w) (h : WL P ops Q rest (a.put (some d) V) w) (hd : o.dst = some d := by exact rfl) (hw : Region.wanted o (yielded ops a.tmps) = true := by kernel_rfl) : WL P ops Q (o :: rest) a w := list_take d V hd hw he h
theorem oY (d : Tmp) (V : Value) (h : WL P ops Q rest (a.put (some d) V) w) (hd : o.dst = some d := by exact rfl) (hw : Region.wanted o (yielded ops a.tmps) = true := by kernel_rfl) (ho : o.op = .move x := by exact rfl) (hx : a.eval x = V := by kernel_rfl) : WL P ops Q (o :: rest) a w := list_take d V hd hw (heMove (.inl ho) hx _) h
theorem oC (V : Value) {g : FuncId} {args : Array Value} {N : World → Prop} (hc : Calls P g args w fun e w' => e = .returned V ∧ N w') (h : ∀ w', N w' → WL P ops Q rest (a.put o.dst V) w') (hg : o.guard = none := by exact rfl) (he : (execOp a.eval o).run P w = .ok (.enter g args) w := by kernel_rfl) : WL P ops Q (o :: rest) a w := sCallO V hg he hc h
end
section
variable {P : Program} {ops : Array Oper} {Q : Exit → Act → World → Prop} {a : Act} {w : World} {o : Oper} {S : World → Prop} {n f : Nat} {listed : Array Bool} {x y : Operand} {V W R : Value} {t r : TypeId}
theorem yG (i : Nat) (d : Tmp) (v : Value) (ho : ops[i]? = some o) (he : ∀ w, S w → (execOp a.eval o).run P w = .ok (.value v) w) (hS : S w) (h : partT P ops Q S n f (listed.setIfInBounds i true) (a.put (some d) v) w) (hd : o.dst = some d := by exact rfl) (hB : partB ops n = true := by kernel_rfl) (hin : decide (i < n) = true := by kernel_rfl)
    (hf : Region.free .any ops listed i = true := by kernel_rfl) (hr : (Region.ready .any ops listed).contains i = true := by kernel_rfl) (hQ : ∀ c a w, Q (.panic c) (a.put o.dst v) w → Q (.panic c) a w := by exact fun _ _ _ h => h) (hw : Region.wanted o (yielded ops a.tmps) = true := by kernel_rfl) : partT P ops Q S n (f + 1) listed a w :=
  part_take d v hd ho hB hin hf hr hQ hw he hS h
theorem yM (i : Nat) (d : Tmp) (v : Value) (hS : S w) (h : partT P ops Q S n f (listed.setIfInBounds i true) (a.put (some d) v) w) (ho : ops[i]? = some o := by exact rfl) (hd : o.dst = some d := by exact rfl) (hB : partB ops n = true := by kernel_rfl) (hin : decide (i < n) = true := by kernel_rfl)
    (hf : Region.free .any ops listed i = true := by kernel_rfl) (hr : (Region.ready .any ops listed).contains i = true := by kernel_rfl) (hQ : ∀ c a w, Q (.panic c) (a.put o.dst v) w → Q (.panic c) a w := by exact fun _ _ _ h => h) (hw : Region.wanted o (yielded ops a.tmps) = true := by kernel_rfl)
    (hp : o.op = .move x := by exact rfl) (hx : a.eval x = v := by kernel_rfl) : partT P ops Q S n (f + 1) listed a w :=
  part_take d v hd ho hB hin hf hr hQ hw (fun w _ => heMove (.inl hp) hx w) hS h
theorem yN (i : Nat) (d : Tmp) (p k : Nat) (hS : S w) (h : partT P ops Q S n f (listed.setIfInBounds i true) (a.put (some d) (pT p k)) w) (ho : ops[i]? = some o := by exact rfl) (hd : o.dst = some d := by exact rfl) (hB : partB ops n = true := by kernel_rfl) (hin : decide (i < n) = true := by kernel_rfl)
    (hf : Region.free .any ops listed i = true := by kernel_rfl) (hr : (Region.ready .any ops listed).contains i = true := by kernel_rfl) (hQ : ∀ c a w, Q (.panic c) (a.put o.dst (pT p k)) w → Q (.panic c) a w := by exact fun _ _ _ h => h) (hw : Region.wanted o (yielded ops a.tmps) = true := by kernel_rfl)
    (hp : o.op = .nilCheck x := by exact rfl) (hx : a.eval x = pT p k := by kernel_rfl) : partT P ops Q S n (f + 1) listed a w :=
  part_take d (pT p k) hd ho hB hin hf hr hQ hw (fun w _ => heNil hp hx w) hS h
theorem yF (i : Nat) (d : Tmp) {j : Nat} (hl : ∀ w, (Instr.fieldAt t V j).run P w = .ok R w) (hS : S w) (h : partT P ops Q S n f (listed.setIfInBounds i true) (a.put (some d) R) w) (ho : ops[i]? = some o := by exact rfl) (hd : o.dst = some d := by exact rfl) (hB : partB ops n = true := by kernel_rfl) (hin : decide (i < n) = true := by kernel_rfl)
    (hf : Region.free .any ops listed i = true := by kernel_rfl) (hr : (Region.ready .any ops listed).contains i = true := by kernel_rfl) (hQ : ∀ c a w, Q (.panic c) (a.put o.dst R) w → Q (.panic c) a w := by exact fun _ _ _ h => h) (hw : Region.wanted o (yielded ops a.tmps) = true := by kernel_rfl)
    (hp : o.op = .fieldAddr t x j := by exact rfl) (hx : a.eval x = V := by kernel_rfl) : partT P ops Q S n (f + 1) listed a w :=
  part_take d R hd ho hB hin hf hr hQ hw (fun w _ => heField hp hx hl w) hS h
theorem yL (i : Nat) (d : Tmp) {ad : Addr} (V : Value) (hl : ∀ w, S w → (Instr.loadAt t (.pointer (some ad))).run P w = .ok V w) (hS : S w) (h : partT P ops Q S n f (listed.setIfInBounds i true) (a.put (some d) V) w) (ho : ops[i]? = some o := by exact rfl) (hd : o.dst = some d := by exact rfl) (hB : partB ops n = true := by kernel_rfl) (hin : decide (i < n) = true := by kernel_rfl)
    (hf : Region.free .any ops listed i = true := by kernel_rfl) (hr : (Region.ready .any ops listed).contains i = true := by kernel_rfl) (hQ : ∀ c a w, Q (.panic c) (a.put o.dst V) w → Q (.panic c) a w := by exact fun _ _ _ h => h) (hw : Region.wanted o (yielded ops a.tmps) = true := by kernel_rfl)
    (hp : o.op = .load t x := by exact rfl) (hx : a.eval x = .pointer (some ad) := by kernel_rfl) : partT P ops Q S n (f + 1) listed a w :=
  part_take d V hd ho hB hin hf hr hQ hw (fun w hS => heLoad hp hx (hl w hS)) hS h
end
def whenM (h : Bool) (v : Int) : Int := if h then v else 0
theorem when_any (h : Bool) (v : Int) (h0 : 0 ≤ v) (h1 : v ≤ 255) (w : World) :
    Calls Tryz.prog 278 #[.bool h, .int .u8 v] w fun e w' => e = .returned (.int .u8 (whenM h v)) ∧ w = w' := by
  cases h
  all_goals
    go_enter Tryz.func278, Tryz.ntmps278
    go_wp2
    go_ret
    exact ⟨rfl, rfl⟩
theorem pow_fin : ∀ k : Fin 8, (2 : Int) ^ k.val % 256 = 2 ^ k.val ∧ (1 : Int) ≤ 2 ^ k.val ∧ (2 : Int) ^ k.val ≤ 128 ∧ (2 ^ k.val * 2 : Int) % 256 = 2 ^ (k.val + 1) % 256 := by decide +kernel
theorem pow_facts (k : Nat) (hk : k < 8) : (2 : Int) ^ k % 256 = 2 ^ k ∧ (1 : Int) ≤ 2 ^ k ∧ (2 : Int) ^ k ≤ 128 ∧ (2 ^ k * 2 : Int) % 256 = 2 ^ (k + 1) % 256 := pow_fin ⟨k, hk⟩
theorem or_and_bit (a b : Int) (ha : B8 a) (hb : B8 b) (k : Nat) (hk : k < 8) : (bits .and .u8 (bits .or .u8 a b) (2 ^ k) != 0) = (isM a k || isM b k) := by
  have h := or_byte a b ha.1 ha.2 hb.1 hb.2
  have e := and_bit (bits .or .u8 a b) (k : Int) h.1 h.2 (by omega) (by omega)
  rw [Int.toNat_natCast, (pow_facts k hk).1] at e
  rw [e, isM_or a b k hk ha.1 ha.2 hb.1 hb.2]
theorem and_and_bit (a b : Int) (ha : B8 a) (hb : B8 b) (k : Nat) (hk : k < 8) : (bits .and .u8 (bits .and .u8 a b) (2 ^ k) != 0) = (isM a k && isM b k) := by
  have h := and_byte a b ha.1 ha.2 hb.1 hb.2
  have e := and_bit (bits .and .u8 a b) (k : Int) h.1 h.2 (by omega) (by omega)
  rw [Int.toNat_natCast, (pow_facts k hk).1] at e
  rw [e, isM_and a b k hk ha.1 ha.2 hb.1 hb.2]
theorem or_pow (x : Int) (hx : B8 x) (k : Nat) (hk : k < 8) : bits .or .u8 x (2 ^ k) = withM x k true := by
  have e := or_bit x (k : Int) hx.1 hx.2 (by omega) (by omega)
  rwa [Int.toNat_natCast, (pow_facts k hk).1] at e
theorem bit_down (B : Int) (h1 : 1 ≤ B) (h2 : B ≤ 128) : (if B * 2 % 256 = 0 then 0 else 256 - (B * 2 % 256).toNat) < if B = 0 then 0 else 256 - B.toNat := by
  rw [if_neg (show ¬ B = 0 by omega)]
  by_cases h : B * 2 % 256 = 0
  · rw [if_pos h]; omega
  · rw [if_neg h]; omega
theorem carries_any (a b : Int) (c : Bool) (ha : B8 a) (hb : B8 b) (w : World) :
    Calls Tryz.prog 279 #[.int .u8 a, .int .u8 b, .bool c] w fun e w' => e = .returned (.int .u8 (outM a b c 8)) ∧ w = w' := by
  go_enter Tryz.func279, Tryz.ntmps279
  go_wp2
  go_loop [2, 7, 8] (fun cc o i => ∃ k : Nat, k ≤ 8 ∧ cc = .bool (cK a b c k) ∧ o = .int .u8 (outM a b c k) ∧ i = .int .u8 (2 ^ k % 256)) (fun _ _ i => if intOf i = 0 then 0 else 256 - (intOf i).toNat)
  case atStart => exact ⟨0, by omega, by rw [cK_zero], rfl, rfl⟩
  case round =>
    obtain ⟨k, hk, rfl, rfl, rfl⟩ := hrel
    by_cases hlt : k < 8
    · obtain ⟨p0, p1, p2, p3⟩ := pow_facts k hlt
      have hs := cK_step a b c k hlt
      have o0 := or_and_bit a b ha hb k hlt
      have o1 := and_and_bit a b ha hb k hlt
      have o2 := Lib.hid (or_pow _ (outM_byte a b c k) k hlt)
      have e2 : outM a b c (k + 1) = if cK a b c (k + 1) then withM (outM a b c k) k true else outM a b c k := rfl
      rw [p0]
      have P0 := Lib.hid p0
      have P3 := Lib.hid p3
      clear p0 p3
      generalize hB : (2 : Int) ^ k = B at *
      have nz : (B != 0) = true := by simp; omega
      cases hc : cK a b c k
      · rw [hc] at hs
        simp only [Bool.false_eq_true, if_false, if_true] at hs
        rw [← hs] at o1
        cases hd : cK a b c (k + 1)
        · rw [hd] at o1 e2
          have HC := Lib.hid hc
          have HD := Lib.hid hd
          have E2 := Lib.hid e2
          clear hs o0 hc hd e2
          go_wp2
          refine ⟨⟨k + 1, by omega, by rw [HD.out], ?_, by rw [P3.out]⟩, ?_⟩
          · rw [E2.out]; rfl
          · exact bit_down B p1 p2
        · rw [hd] at o1 e2
          have HC := Lib.hid hc
          have HD := Lib.hid hd
          have E2 := Lib.hid e2
          clear hs o0 hc hd e2
          go_wp2
          refine ⟨⟨k + 1, by omega, by rw [HD.out], ?_, by rw [P3.out]⟩, ?_⟩
          · rw [E2.out, o2.out]; rfl
          · exact bit_down B p1 p2
      · rw [hc] at hs
        simp only [Bool.false_eq_true, if_false, if_true] at hs
        rw [← hs] at o0
        cases hd : cK a b c (k + 1)
        · rw [hd] at o0 e2
          have HC := Lib.hid hc
          have HD := Lib.hid hd
          have E2 := Lib.hid e2
          clear hs o1 hc hd e2
          go_wp2
          refine ⟨⟨k + 1, by omega, by rw [HD.out], ?_, by rw [P3.out]⟩, ?_⟩
          · rw [E2.out]; rfl
          · exact bit_down B p1 p2
        · rw [hd] at o0 e2
          have HC := Lib.hid hc
          have HD := Lib.hid hd
          have E2 := Lib.hid e2
          clear hs o1 hc hd e2
          go_wp2
          refine ⟨⟨k + 1, by omega, by rw [HD.out], ?_, by rw [P3.out]⟩, ?_⟩
          · rw [E2.out, o2.out]; rfl
          · exact bit_down B p1 p2
    · obtain rfl : k = 8 := by omega
      go_wp2
      go_ret
      exact ⟨rfl, rfl⟩
def joinUpto (zs : List Int) : Nat → Int
  | 0 => 0
  | k + 1 => bits .or .u8 (joinUpto zs k) (zs.getD k 0)
theorem join_any (b off len cap : Nat) (zs : List Int) (w : World) (hz : len ≤ zs.length) (hbig : len ≤ 100) (hc : ∀ j, j < zs.length → w.cell? ⟨b, off + j, none⟩ = some (.int .u8 (zs.getD j 0))) :
    Calls Tryz.prog 271 #[.slice (some ⟨b, off, none⟩) len cap] w fun e w' => e = .returned (.int .u8 (joinUpto zs len)) ∧ w = w' := by
  go_enter Tryz.func271, Tryz.ntmps271
  go_wp2
  go_loop [3, 8] (fun t i => ∃ k : Nat, k ≤ len ∧ i = .int .i64 k ∧ t = .int .u8 (joinUpto zs k)) (fun _ i => len - (intOf i).toNat)
  case atStart => exact ⟨0, Nat.zero_le _, rfl, rfl⟩
  case round =>
    obtain ⟨k, hk, rfl, rfl⟩ := hrel
    by_cases hlt : k < len
    · have hk0 : (0 : Int) ≤ (k : Int) := by omega
      have hk1 : (k : Int) < (len : Int) := by omega
      have hcell := hc k (by omega)
      have hc := Lib.hid hc
      go_wp2
      go_round
      case rel => exact ⟨k + 1, by omega, by go_num, rfl⟩
      case measure => simp [intOf]; omega
    · obtain rfl : k = len := by omega
      go_wp2
      go_ret
      exact ⟨rfl, rfl⟩
abbrev two (r f : Int) : Value := .tuple #[.int .u8 r, .int .u8 f]
theorem keep2 {w w' : World} {A B : Nat} {u v : Value} (k : Below w.heap.size w w') (h : w.cell? ⟨A, 0, none⟩ = some u ∧ w.cell? ⟨B, 0, none⟩ = some v) :
    w'.cell? ⟨A, 0, none⟩ = some u ∧ w'.cell? ⟨B, 0, none⟩ = some v :=
  ⟨(k.cell (World.block_lt_of_cell? _ _ h.1)).trans h.1, (k.cell (World.block_lt_of_cell? _ _ h.2)).trans h.2⟩
theorem cell_new (w : World) (v : Value) (t : TypeId) : (w.alloc (.cells #[v] t)).cell? ⟨w.heap.size, 0, none⟩ = some v := by
  have e : ∀ o : Obj, (w.alloc o).heap[w.heap.size]? = some o := fun o => by
    show (w.heap.push _)[w.heap.size]? = _
    simp
  simp only [World.cell?, e]; rfl
theorem cell_kept {w w' : World} {p : Addr} {v : Value} (h : w.cell? p = some v) (k : Below w.heap.size w w') : w'.cell? p = some v :=
  (k.cell (World.block_lt_of_cell? _ _ h)).trans h
theorem cell_under (w : World) (o : Obj) {p : Addr} {v : Value} (h : w.cell? p = some v) : (w.alloc o).cell? p = some v :=
  cell_kept h (Below.alloc (Below.refl _ _) (Nat.le_refl _) _)
theorem join_add_fin : ∀ (x : Fin 256) (h v c : Bool), joinUpto [resultM (x.val : Int), whenM h 16, whenM v 4, whenM c 1] 4 = mkM (isM (x.val : Int) 7) ((x.val : Int) == 0) (isM (x.val : Int) 5) h (isM (x.val : Int) 3) v false c := by decide +kernel
theorem join_add (x : Int) (hx : B8 x) (h v c : Bool) : joinUpto [resultM x, whenM h 16, whenM v 4, whenM c 1] 4 = mkM (isM x 7) (x == 0) (isM x 5) h (isM x 3) v false c :=
  byte_all (P := fun x => joinUpto [resultM x, whenM h 16, whenM v 4, whenM c 1] 4 = mkM (isM x 7) (x == 0) (isM x 5) h (isM x 3) v false c) (fun x => join_add_fin x h v c) x hx.1 hx.2
theorem add_math (a b : Int) (c : Bool) (ha : B8 a) (hb : B8 b) :
    joinUpto [resultM (addR a b c), whenM (isM (outM a b c 8) 3) 16, whenM (!isM (outM a b c 8) 6 == isM (outM a b c 8) 7) 4, whenM (isM (outM a b c 8) 7) 1] 4 = addF a b c := by
  obtain ⟨e3, e6, e7⟩ := out_bits a b c
  obtain ⟨n4, n8, n7⟩ := cK_nums a b c ha hb
  change joinUpto [_, _, whenM (isM (outM a b c 8) 6 != isM (outM a b c 8) 7) 4, _] 4 = _
  rw [join_add _ (addR_byte a b c), e3, e6, e7, n7, n4, n8]
  rfl
theorem cells4 (w : World) (t : TypeId) (x0 x1 x2 x3 : Int) (n : Nat × Nat) : ∀ j, j < [x0, x1, x2, x3].length → (w.alloc (.cells #[.int .u8 x0, .int .u8 x1, .int .u8 x2, .int .u8 x3] t n)).cell? ⟨w.heap.size, 0 + j, none⟩ = some (.int .u8 ([x0, x1, x2, x3].getD j 0)) := by
  have e : ∀ o : Obj, (w.alloc o).heap[w.heap.size]? = some o := fun o => by
    show (w.heap.push _)[w.heap.size]? = _
    simp
  intro j hj
  match j, hj with
  | 0, _ => simp only [World.cell?, Nat.zero_add, e]; rfl
  | 1, _ => simp only [World.cell?, Nat.zero_add, e]; rfl
  | 2, _ => simp only [World.cell?, Nat.zero_add, e]; rfl
  | 3, _ => simp only [World.cell?, Nat.zero_add, e]; rfl
theorem cells2 (w : World) (t : TypeId) (x0 x1 : Int) (n : Nat × Nat) : ∀ j, j < [x0, x1].length → (w.alloc (.cells #[.int .u8 x0, .int .u8 x1] t n)).cell? ⟨w.heap.size, 0 + j, none⟩ = some (.int .u8 ([x0, x1].getD j 0)) := by
  have e : ∀ o : Obj, (w.alloc o).heap[w.heap.size]? = some o := fun o => by
    show (w.heap.push _)[w.heap.size]? = _
    simp
  intro j hj
  match j, hj with
  | 0, _ => simp only [World.cell?, Nat.zero_add, e]; rfl
  | 1, _ => simp only [World.cell?, Nat.zero_add, e]; rfl
theorem add_any (a b : Int) (c : Bool) (ha : B8 a) (hb : B8 b) (w : World) :
    Calls Tryz.prog 228 #[.int .u8 a, .int .u8 b, .bool c] w fun e w' => e = .returned (two (addR a b c) (addF a b c)) ∧ Below w.heap.size w w' := by
  have hm := Lib.hid (add_math a b c ha hb)
  have hr := Lib.hid (addR_byte a b c)
  have ho := Lib.hid (outM_byte a b c 8)
  have ha := Lib.hid ha
  have hb := Lib.hid hb
  have a0 := ha.out.1
  have a1 := ha.out.2
  have b0 := hb.out.1
  have b1 := hb.out.2
  go_enter Tryz.func228, Tryz.ntmps228
  go_wp2_with (first
    | (go_at_call 278; refine (when_any _ _ (by omega) (by omega) _).mono ?_; rintro e w' ⟨rfl, rfl⟩)
    | (go_at_call 279; refine (carries_any _ _ _ ha.out hb.out _).mono ?_; rintro e w' ⟨rfl, rfl⟩)
    | (go_at_call 199; refine (is_any _ _ ho.out.1 ho.out.2 _).mono ?_; rintro e w' ⟨rfl, rfl⟩)
    | (go_at_call 264; refine (result_any _ (by omega) (by omega) _).mono ?_; rintro e w' ⟨rfl, rfl⟩)
    | (go_at_call 271; refine (join_any _ 0 4 4 [resultM (addR a b c), whenM (isM (outM a b c 8) 3) 16, whenM (!isM (outM a b c 8) 6 == isM (outM a b c 8) 7) 4, whenM (isM (outM a b c 8) 7) 1] _ (by simp) (by omega) (cells4 _ _ _ _ _ _ _)).mono ?_; rintro e w' ⟨rfl, rfl⟩))
  go_ret2
  exact ⟨by rw [hm.out]; rfl, (by repeat (first | exact Below.refl _ _ | assumption | refine bstep ?_ (by assumption) | refine Below.drew ?_ | refine Below.alloc ?_ (by first | (simp; done) | (simp; omega) | omega) _ | refine Below.setCell ?_ (by first | (simp; done) | (simp; omega) | omega) _))⟩
theorem opAnd_any (x y : Bool) (w : World) :
    Calls Tryz.prog 285 #[.bool x, .bool y] w fun e w' => e = .returned (.bool (andB x y)) ∧ w = w' := by
  cases x
  all_goals
    go_enter Tryz.func285, Tryz.ntmps285
    go_wp2
    go_ret
    exact ⟨rfl, rfl⟩
theorem opOr_any (x y : Bool) (w : World) :
    Calls Tryz.prog 287 #[.bool x, .bool y] w fun e w' => e = .returned (.bool (orB x y)) ∧ w = w' := by
  cases x
  all_goals
    go_enter Tryz.func287, Tryz.ntmps287
    go_wp2
    go_ret
    exact ⟨rfl, rfl⟩
theorem opXor_any (x y : Bool) (w : World) :
    Calls Tryz.prog 286 #[.bool x, .bool y] w fun e w' => e = .returned (.bool (xorB x y)) ∧ w = w' := by
  go_enter Tryz.func286, Tryz.ntmps286
  go_wp2
  go_ret
  exact ⟨rfl, rfl⟩
theorem mergeAnd_any (a b : Int) (ha : B8 a) (hB : B8 b) (w : World) :
    Calls Tryz.prog 284 #[.int .u8 a, .int .u8 b, .func (.func 285) #[] #[]] w fun e w' => e = .returned (.int .u8 (andR a b)) ∧ Below w.heap.size w w' := by
  go_enter Tryz.func284, Tryz.ntmps284
  go_wp2
  refine wp_loop_rounds 9 ?_
  iterate 9 (rw [rounds_succ]; go_wp2_with (first
    | (go_at_call 199; refine (is_any _ _ (B8.lo (by assumption)) (B8.hi (by assumption)) _).mono ?_; rintro e w' ⟨rfl, rfl⟩)
    | (go_at_call 285; refine (opAnd_any _ _ _).mono ?_; rintro e w' ⟨rfl, rfl⟩)
    | (go_at_call 108; refine (with_any _ _ _ (B8.lo (by repeat (first | exact B8.zero | apply B8.with))) (B8.hi (by repeat (first | exact B8.zero | apply B8.with))) _).mono ?_; rintro e w' ⟨rfl, rfl⟩)))
  go_ret
  exact ⟨ret_int (up_mk _ _ _ _ _ _ _ _), (by repeat (first | exact Below.refl _ _ | assumption | refine bstep ?_ (by assumption) | refine Below.drew ?_ | refine Below.alloc ?_ (by first | (simp; done) | (simp; omega) | omega) _ | refine Below.setCell ?_ (by first | (simp; done) | (simp; omega) | omega) _))⟩
theorem mergeOr_any (a b : Int) (ha : B8 a) (hB : B8 b) (w : World) :
    Calls Tryz.prog 284 #[.int .u8 a, .int .u8 b, .func (.func 287) #[] #[]] w fun e w' => e = .returned (.int .u8 (orR a b)) ∧ Below w.heap.size w w' := by
  go_enter Tryz.func284, Tryz.ntmps284
  go_wp2
  refine wp_loop_rounds 9 ?_
  iterate 9 (rw [rounds_succ]; go_wp2_with (first
    | (go_at_call 199; refine (is_any _ _ (B8.lo (by assumption)) (B8.hi (by assumption)) _).mono ?_; rintro e w' ⟨rfl, rfl⟩)
    | (go_at_call 287; refine (opOr_any _ _ _).mono ?_; rintro e w' ⟨rfl, rfl⟩)
    | (go_at_call 108; refine (with_any _ _ _ (B8.lo (by repeat (first | exact B8.zero | apply B8.with))) (B8.hi (by repeat (first | exact B8.zero | apply B8.with))) _).mono ?_; rintro e w' ⟨rfl, rfl⟩)))
  go_ret
  exact ⟨ret_int (up_mk _ _ _ _ _ _ _ _), (by repeat (first | exact Below.refl _ _ | assumption | refine bstep ?_ (by assumption) | refine Below.drew ?_ | refine Below.alloc ?_ (by first | (simp; done) | (simp; omega) | omega) _ | refine Below.setCell ?_ (by first | (simp; done) | (simp; omega) | omega) _))⟩
theorem mergeXor_any (a b : Int) (ha : B8 a) (hB : B8 b) (w : World) :
    Calls Tryz.prog 284 #[.int .u8 a, .int .u8 b, .func (.func 286) #[] #[]] w fun e w' => e = .returned (.int .u8 (xorR a b)) ∧ Below w.heap.size w w' := by
  go_enter Tryz.func284, Tryz.ntmps284
  go_wp2
  refine wp_loop_rounds 9 ?_
  iterate 9 (rw [rounds_succ]; go_wp2_with (first
    | (go_at_call 199; refine (is_any _ _ (B8.lo (by assumption)) (B8.hi (by assumption)) _).mono ?_; rintro e w' ⟨rfl, rfl⟩)
    | (go_at_call 286; refine (opXor_any _ _ _).mono ?_; rintro e w' ⟨rfl, rfl⟩)
    | (go_at_call 108; refine (with_any _ _ _ (B8.lo (by repeat (first | exact B8.zero | apply B8.with))) (B8.hi (by repeat (first | exact B8.zero | apply B8.with))) _).mono ?_; rintro e w' ⟨rfl, rfl⟩)))
  go_ret
  exact ⟨ret_int (up_mk _ _ _ _ _ _ _ _), (by repeat (first | exact Below.refl _ _ | assumption | refine bstep ?_ (by assumption) | refine Below.drew ?_ | refine Below.alloc ?_ (by first | (simp; done) | (simp; omega) | omega) _ | refine Below.setCell ?_ (by first | (simp; done) | (simp; omega) | omega) _))⟩
theorem and_any (a b : Int) (ha : B8 a) (hB : B8 b) (w : World) :
    Calls Tryz.prog 236 #[.int .u8 a, .int .u8 b] w fun e w' => e = .returned (two (andR a b) (andFl (andR a b))) ∧ Below w.heap.size w w' := by
  have hr : B8 (andR a b) := mergeM_byte ..
  have hm := Lib.hid (andFl_all _ hr)
  go_enter Tryz.func236, Tryz.ntmps236
  go_wp2_with (first
    | (go_at_call 284; refine (mergeAnd_any _ _ (by assumption) (by assumption) _).mono ?_; rintro e w' ⟨rfl, hb⟩; have hsz := hb.size)
    | (go_at_call 194; refine (evenF_any _ (B8.lo (by assumption)) (B8.hi (by assumption)) _).mono ?_; rintro e w' ⟨rfl, hb⟩; have hsz := hb.size))
  go_ret2
  exact ⟨by rw [hm.out]; rfl, (by repeat (first | exact Below.refl _ _ | assumption | refine bstep ?_ (by assumption) | refine Below.drew ?_ | refine Below.alloc ?_ (by first | (simp; done) | (simp; omega) | omega) _ | refine Below.setCell ?_ (by first | (simp; done) | (simp; omega) | omega) _))⟩
theorem or_any (a b : Int) (ha : B8 a) (hB : B8 b) (w : World) :
    Calls Tryz.prog 238 #[.int .u8 a, .int .u8 b] w fun e w' => e = .returned (two (orR a b) (evenFM (orR a b))) ∧ Below w.heap.size w w' := by
  have hr : B8 (orR a b) := mergeM_byte ..
  go_enter Tryz.func238, Tryz.ntmps238
  go_wp2_with (first
    | (go_at_call 284; refine (mergeOr_any _ _ (by assumption) (by assumption) _).mono ?_; rintro e w' ⟨rfl, hb⟩; have hsz := hb.size)
    | (go_at_call 194; refine (evenF_any _ (B8.lo (by assumption)) (B8.hi (by assumption)) _).mono ?_; rintro e w' ⟨rfl, hb⟩; have hsz := hb.size))
  go_ret2
  exact ⟨rfl, (by repeat (first | exact Below.refl _ _ | assumption | refine bstep ?_ (by assumption) | refine Below.drew ?_ | refine Below.alloc ?_ (by first | (simp; done) | (simp; omega) | omega) _ | refine Below.setCell ?_ (by first | (simp; done) | (simp; omega) | omega) _))⟩
theorem xor_any (a b : Int) (ha : B8 a) (hB : B8 b) (w : World) :
    Calls Tryz.prog 237 #[.int .u8 a, .int .u8 b] w fun e w' => e = .returned (two (xorR a b) (evenFM (xorR a b))) ∧ Below w.heap.size w w' := by
  have hr : B8 (xorR a b) := mergeM_byte ..
  go_enter Tryz.func237, Tryz.ntmps237
  go_wp2_with (first
    | (go_at_call 284; refine (mergeXor_any _ _ (by assumption) (by assumption) _).mono ?_; rintro e w' ⟨rfl, hb⟩; have hsz := hb.size)
    | (go_at_call 194; refine (evenF_any _ (B8.lo (by assumption)) (B8.hi (by assumption)) _).mono ?_; rintro e w' ⟨rfl, hb⟩; have hsz := hb.size))
  go_ret2
  exact ⟨rfl, (by repeat (first | exact Below.refl _ _ | assumption | refine bstep ?_ (by assumption) | refine Below.drew ?_ | refine Below.alloc ?_ (by first | (simp; done) | (simp; omega) | omega) _ | refine Below.setCell ?_ (by first | (simp; done) | (simp; omega) | omega) _))⟩
theorem lkeep_any (b f : Int) (hb : B8 b) (hf : B8 f) (w : World) :
    Calls Tryz.prog 281 #[.int .u8 b, .int .u8 f] w fun e w' => e = .returned (.int .u8 (keepM (resultM b) f 196)) ∧ w = w' := by
  have hr := resultM_byte b
  go_enter Tryz.func281, Tryz.ntmps281
  go_wp2_with (first
    | (go_at_call 264; refine (result_any _ (B8.lo (by assumption)) (B8.hi (by assumption)) _).mono ?_; rintro e w' ⟨rfl, rfl⟩)
    | (go_at_call 198; refine (keep_any _ _ _ (B8.lo (by assumption)) (B8.hi (by assumption)) (B8.lo (by assumption)) (B8.hi (by assumption)) (by omega) (by omega) _).mono ?_; rintro e w' ⟨rfl, rfl⟩))
  go_ret
  exact ⟨rfl, rfl⟩
theorem lnot8_fin : ∀ x : Fin 256, bits .xor .u8 IntKind.u8.max (x.val : Int) = 255 - (x.val : Int) := by decide +kernel
theorem lnot8 (b : Int) (hb : B8 b) : bits .xor .u8 IntKind.u8.max b = 255 - b :=
  byte_all (P := fun b => bits .xor .u8 IntKind.u8.max b = 255 - b) lnot8_fin b hb.1 hb.2
theorem cpl_any (a f : Int) (ha : B8 a) (hf : B8 f) (w : World) :
    Calls Tryz.prog 230 #[.int .u8 a, .int .u8 f] w fun e w' => e = .returned (two (255 - a) (cplF a f)) ∧ w = w' := by
  have hr : B8 (255 - a) := ⟨by have := ha.2; omega, by have := ha.1; omega⟩
  have hx := lnot8 a ha
  have hm := Lib.hid (cpl_math a f hf)
  go_enter Tryz.func230, Tryz.ntmps230
  go_wp2_with (first
    | (go_at_call 281; refine (lkeep_any _ _ (by assumption) (by assumption) _).mono ?_; rintro e w' ⟨rfl, rfl⟩))
  go_ret2
  exact ⟨by rw [← hm.out]; rfl, rfl⟩
theorem scf_any (a f : Int) (ha : B8 a) (hf : B8 f) (w : World) :
    Calls Tryz.prog 231 #[.int .u8 a, .int .u8 f] w fun e w' => e = .returned (.int .u8 (scfF a f)) ∧ w = w' := by
  have hm := Lib.hid (scf_math a f)
  go_enter Tryz.func231, Tryz.ntmps231
  go_wp2_with (first
    | (go_at_call 281; refine (lkeep_any _ _ (by assumption) (by assumption) _).mono ?_; rintro e w' ⟨rfl, rfl⟩))
  go_ret
  exact ⟨ret_int hm.out, rfl⟩
theorem ccf_any (a f : Int) (ha : B8 a) (hf : B8 f) (w : World) :
    Calls Tryz.prog 232 #[.int .u8 a, .int .u8 f] w fun e w' => e = .returned (.int .u8 (ccfF a f)) ∧ w = w' := by
  have k := low_all f hf
  cases hc : isM f 0
  · have hm := Lib.hid (ccf_no a f hc)
    have k0 : bits .and .u8 f 1 = 0 := by rw [k, hc]; rfl
    clear k hc
    go_enter Tryz.func232, Tryz.ntmps232
    go_wp2_with (first
      | (go_at_call 231; refine (scf_any _ _ (by assumption) (by assumption) _).mono ?_; rintro e w' ⟨rfl, rfl⟩))
    go_ret
    exact ⟨ret_int hm.out, rfl⟩
  · have hm := Lib.hid (ccf_yes a f hc)
    have k0 : bits .and .u8 f 1 = 1 := by rw [k, hc]; rfl
    clear k hc
    go_enter Tryz.func232, Tryz.ntmps232
    go_wp2_with (first
      | (go_at_call 281; refine (lkeep_any _ _ (by assumption) (by assumption) _).mono ?_; rintro e w' ⟨rfl, rfl⟩))
    go_ret
    exact ⟨ret_int hm.out, rfl⟩
section
def Digits (w : World) : Prop := w.cell? ⟨3, 0, none⟩ = some (.int .u8 16) ∧ w.cell? ⟨3, 1, none⟩ = some (.int .u8 15) ∧ w.cell? ⟨3, 2, none⟩ = some (.int .u8 9) ∧ w.cell? ⟨3, 3, none⟩ = some (.int .u8 6) ∧ w.cell? ⟨3, 4, none⟩ = some (.int .u8 1) ∧ w.cell? ⟨3, 5, none⟩ = some (.int .u8 255) ∧ w.cell? ⟨3, 6, none⟩ = some (.int .u8 153) ∧ w.cell? ⟨3, 7, none⟩ = some (.int .u8 96)
theorem Digits.below {w w' : World} (h : Digits w) (k : Below w.heap.size w w') : Digits w' := by
  obtain ⟨h0, h1, h2, h3, h4, h5, h6, h7⟩ := h
  exact ⟨(k.cell (World.block_lt_of_cell? _ _ h0)).trans h0, (k.cell (World.block_lt_of_cell? _ _ h1)).trans h1, (k.cell (World.block_lt_of_cell? _ _ h2)).trans h2, (k.cell (World.block_lt_of_cell? _ _ h3)).trans h3, (k.cell (World.block_lt_of_cell? _ _ h4)).trans h4, (k.cell (World.block_lt_of_cell? _ _ h5)).trans h5, (k.cell (World.block_lt_of_cell? _ _ h6)).trans h6, (k.cell (World.block_lt_of_cell? _ _ h7)).trans h7⟩
theorem run_index_row {P : Program} {t e : TypeId} {n m : Nat} {fs : Array Field} {cs : Array Value} {k : IntKind} {i : Int} {w : World} (h : P.underlying t = some (.array n e)) (he : P.underlying e = some (.struct fs)) (hs : (sizeOf e).run P w = .ok m w) (hi : 0 ≤ i ∧ i < n) :
    (Instr.index t (.agg cs) (.int k i)).run P w = .ok (.agg (cs.extract (i.toNat * m) (i.toNat * m + m))) w := by
  simp [Instr.index, asIntOf, run_underlying h, hi, hs, part, isAgg, run_underlying he]
theorem ixd_0 (a0 a1 a2 a3 a4 a5 a6 a7 : Value) (w : World) : (Instr.index 177 (.agg #[a0, a1, a2, a3, a4, a5, a6, a7]) (.int .i64 0)).run Tryz.prog w = .ok (.agg #[a0, a1, a2, a3]) w :=
  run_index_row (m := 4) Tryz.underlying177 Tryz.underlying176 (by kernel_rfl) (by decide)
theorem ixd_1 (a0 a1 a2 a3 a4 a5 a6 a7 : Value) (w : World) : (Instr.index 177 (.agg #[a0, a1, a2, a3, a4, a5, a6, a7]) (.int .i64 1)).run Tryz.prog w = .ok (.agg #[a4, a5, a6, a7]) w :=
  run_index_row (m := 4) Tryz.underlying177 Tryz.underlying176 (by kernel_rfl) (by decide)
attribute [local go_sem ↓] ixd_0 ixd_1
theorem flag_fin : ∀ x : Fin 256, bits .and .u8 (x.val : Int) 16 = (if isM (x.val : Int) 4 then 16 else 0) ∧ bits .and .u8 (x.val : Int) 1 = (if isM (x.val : Int) 0 then 1 else 0) ∧ bits .and .u8 (x.val : Int) 15 = (x.val : Int) % 16 ∧ bits .and .u8 (x.val : Int) 255 = (x.val : Int) ∧ bits .and .u8 (x.val : Int) 2 = (if isM (x.val : Int) 1 then 2 else 0) := by decide +kernel
theorem flag_all (f : Int) (h : B8 f) : bits .and .u8 f 16 = (if isM f 4 then 16 else 0) ∧ bits .and .u8 f 1 = (if isM f 0 then 1 else 0) ∧ bits .and .u8 f 15 = f % 16 ∧ bits .and .u8 f 255 = f ∧ bits .and .u8 f 2 = (if isM f 1 then 2 else 0) :=
  byte_all (P := fun f => bits .and .u8 f 16 = (if isM f 4 then 16 else 0) ∧ bits .and .u8 f 1 = (if isM f 0 then 1 else 0) ∧ bits .and .u8 f 15 = f % 16 ∧ bits .and .u8 f 255 = f ∧ bits .and .u8 f 2 = (if isM f 1 then 2 else 0)) flag_fin f h.1 h.2
def wrongM (a f : Int) : Int := (if wrongLow a f then 16 else 0) + (if wrongHigh a f then 1 else 0)
theorem or_17 : bits .or .u8 0 16 = 16 ∧ bits .or .u8 16 1 = 17 ∧ bits .or .u8 0 1 = 1 := by decide +kernel
theorem correct_any (a f : Int) (ha : B8 a) (hf : B8 f) (w : World) (hd : Digits w) :
    Calls Tryz.prog 280 #[.int .u8 a, .int .u8 f] w fun e w' => e = .returned (two (byM a f) (wrongM a f)) ∧ Below w.heap.size w w' := by
  obtain ⟨d0, d1, d2, d3, d4, d5, d6, d7⟩ := hd
  obtain ⟨k1, k2, _, _, _⟩ := flag_all f hf
  obtain ⟨_, _, k3, k4, _⟩ := flag_all a ha
  obtain ⟨o1, o2, o3⟩ := or_17
  have a0 := ha.1
  have a1 := ha.2
  by_cases c2 : 9 < a % 16 <;> by_cases c4 : 153 < a <;> cases c1 : isM f 4 <;> cases c3 : isM f 0
  all_goals
    rw [c1] at k1
    rw [c3] at k2
    simp only [if_true, if_false, Bool.false_eq_true] at k1 k2
    have hb : byM a f = (if isM f 4 || decide (9 < a % 16) then 6 else 0) + (if isM f 0 || decide (153 < a) then 96 else 0) := rfl
    have hw : wrongM a f = (if isM f 4 || decide (9 < a % 16) then 16 else 0) + (if isM f 0 || decide (153 < a) then 1 else 0) := rfl
    first | rw [c1, c3, decide_eq_true c2, decide_eq_true c4] at hb hw | rw [c1, c3, decide_eq_true c2, decide_eq_false c4] at hb hw | rw [c1, c3, decide_eq_false c2, decide_eq_true c4] at hb hw | rw [c1, c3, decide_eq_false c2, decide_eq_false c4] at hb hw
    have hb := Lib.hid hb
    have hw := Lib.hid hw
    clear c1 c3
    go_enter Tryz.func280, Tryz.ntmps280
    go_wp2
    refine wp_loop_rounds 3 ?_
    iterate 3 (rw [rounds_succ]; go_wp2)
    go_ret2
    exact ⟨by rw [hb.out, hw.out]; rfl, (by repeat (first | exact Below.refl _ _ | assumption | refine bstep ?_ (by assumption) | refine Below.drew ?_ | refine Below.alloc ?_ (by first | (simp; done) | (simp; omega) | omega) _ | refine Below.setCell ?_ (by first | (simp; done) | (simp; omega) | omega) _))⟩
theorem daa_bits : ∀ b0 b1 b2 b4 b5 n h c : Bool, bits .or .u8 (bits .or .u8 (bits .or .u8 (mkM b0 b1 b2 false b4 b5 false false) (if n then 2 else 0)) (if h then 16 else 0)) (if c then 1 else 0) = mkM b0 b1 b2 h b4 b5 n c := by decide +kernel
theorem wrong_low (a f : Int) : bits .and .u8 (wrongM a f) 1 = if wrongHigh a f then 1 else 0 := by
  unfold wrongM
  generalize wrongLow a f = x
  generalize wrongHigh a f = y
  revert x y
  decide +kernel
theorem daa_math (a f : Int) (ha : B8 a) (hf : B8 f) :
    bits .or .u8 (bits .or .u8 (bits .or .u8 (evenFM (daaR a f)) (bits .and .u8 f 2)) (bits .and .u8 (bits .xor .u8 a (daaR a f)) 16)) (bits .and .u8 (wrongM a f) 1) = daaF a f := by
  have hr := daaR_byte a f
  have hx := xor_byte a (daaR a f) ha.1 ha.2 hr.1 hr.2
  rw [(flag_all f hf).2.2.2.2, (flag_all _ hx).1, wrong_low]
  have i := isM_xor a (daaR a f) 4 (by omega) ha.1 ha.2 hr.1 hr.2
  rw [show isM (bits .xor .u8 a (daaR a f)) 4 = (isM a 4 != isM (daaR a f) 4) from by simpa using i]
  exact daa_bits _ _ _ _ _ _ _ _
theorem daa_any (a f : Int) (ha : B8 a) (hf : B8 f) (w : World) (hd : Digits w) :
    Calls Tryz.prog 229 #[.int .u8 a, .int .u8 f] w fun e w' => e = .returned (two (daaR a f) (daaF a f)) ∧ Below w.heap.size w w' := by
  have hm := daa_math a f ha hf
  have hr := daaR_byte a f
  have hy := byM_byte a f
  have k := (flag_all f hf).2.2.2.2
  have a0 := ha.1
  have a1 := ha.2
  cases c : isM f 1
  · have e : daaR a f = (a + byM a f) % 256 := by unfold daaR; rw [c]; rfl
    rw [c] at k
    simp only [if_false, Bool.false_eq_true] at k
    rw [k, e] at hm
    rw [e] at hr ⊢
    have hm := Lib.hid hm
    clear e c
    go_enter Tryz.func229, Tryz.ntmps229
    go_wp2_with (first
      | (go_at_call 280; refine (correct_any _ _ (by assumption) (by assumption) _ hd).mono ?_; rintro e w' ⟨rfl, hb⟩; have hsz := hb.size)
      | (go_at_call 194; refine (evenF_any _ (B8.lo (by assumption)) (B8.hi (by assumption)) _).mono ?_; rintro e w' ⟨rfl, hb⟩; have hsz := hb.size))
    go_ret2
    exact ⟨by rw [← hm.out]; rfl, (by repeat (first | exact Below.refl _ _ | assumption | refine bstep ?_ (by assumption) | refine Below.drew ?_ | refine Below.alloc ?_ (by first | (simp; done) | (simp; omega) | omega) _ | refine Below.setCell ?_ (by first | (simp; done) | (simp; omega) | omega) _))⟩
  · have e : daaR a f = (a - byM a f) % 256 := by unfold daaR; rw [c]; rfl
    rw [c] at k
    simp only [if_true] at k
    rw [k, e] at hm
    rw [e] at hr ⊢
    have hm := Lib.hid hm
    clear e c
    go_enter Tryz.func229, Tryz.ntmps229
    go_wp2_with (first
      | (go_at_call 280; refine (correct_any _ _ (by assumption) (by assumption) _ hd).mono ?_; rintro e w' ⟨rfl, hb⟩; have hsz := hb.size)
      | (go_at_call 194; refine (evenF_any _ (B8.lo (by assumption)) (B8.hi (by assumption)) _).mono ?_; rintro e w' ⟨rfl, hb⟩; have hsz := hb.size))
    go_ret2
    exact ⟨by rw [← hm.out]; rfl, (by repeat (first | exact Below.refl _ _ | assumption | refine bstep ?_ (by assumption) | refine Below.drew ?_ | refine Below.alloc ?_ (by first | (simp; done) | (simp; omega) | omega) _ | refine Below.setCell ?_ (by first | (simp; done) | (simp; omega) | omega) _))⟩
end
theorem setBlock_top (W : World) (o o' : Obj) : ({ W.alloc o with heap := (W.alloc o).heap.setIfInBounds W.heap.size o' } : World) = W.alloc o' := by
  have e : (W.heap.push o).setIfInBounds W.heap.size o' = W.heap.push o' := by
    apply Array.ext
    · simp
    · intro i h1 h2
      simp at h1 h2
      by_cases hi : i = W.heap.size
      · subst hi; simp
      · rw [Array.getElem_setIfInBounds, Array.getElem_push_lt (by omega), Array.getElem_push_lt (by omega), if_neg (by omega)]
        simpa using h1
  show ({ W with heap := (W.heap.push o).setIfInBounds W.heap.size o' } : World) = { W with heap := W.heap.push o' }
  rw [e]
theorem run_insert_top {P : Program} (W : World) (t kt et : TypeId) (ht : P.underlying t = some (.map kt et)) (hk : P.underlying kt = some (.int .i64)) (es : List MapEntry) (clock : Nat) (n : Int) (val : Value) (b : Nat)
    (hb : b = W.heap.size) (hnew : Instr.findNow (.int .i64) (.int .i64 n) es 0 = some none) :
    (Instr.mapUpdate t (.map (some b)) (.int .i64 n) val).run P (W.alloc (.map es.toArray clock)) = .ok () (W.alloc (.map (es ++ [({ key := .int .i64 n, val := val, born := clock } : MapEntry)]).toArray (clock + 1))) := by
  subst hb
  have hb := (MapKept.heap_alloc W (.map es.toArray clock)).1
  simp [Instr.mapUpdate, run_underlying ht, MapKept.run_getObj_map hb, MapKept.run_checkKey hk (k := .int .i64 n) (by simp [MapKept.IsKey]) false 9999, MapKept.run_findKey hk hnew, MapKept.run_setObj_map _ hb, Result.andThen]
  exact setBlock_top W _ _
theorem run_look {P : Program} {W : World} {t kt et : TypeId} (ht : P.underlying t = some (.map kt et)) (hk : P.underlying kt = some (.int .i64)) {es : Array MapEntry} {clock M : Nat} (hb : W.heap[M]? = some (.map es clock)) {n : Int} {j : Nat} {v : Value}
    (hf : Instr.findNow (.int .i64) (.int .i64 n) es.toList 0 = some (some (j, v))) : (Instr.lookup t (.map (some M)) (.int .i64 n) true).run P W = .ok (.tuple #[v, .bool true]) W := by
  simp [Instr.lookup, run_underlying ht, MapKept.run_getObj_map hb, MapKept.run_checkKey hk (k := .int .i64 n) (by simp [MapKept.IsKey]) _ 9999, MapKept.run_findKey hk hf, Result.andThen]
theorem run_look_no {P : Program} {W : World} {t kt et : TypeId} (ht : P.underlying t = some (.map kt et)) (hk : P.underlying kt = some (.int .i64)) {es : Array MapEntry} {clock M : Nat} (hb : W.heap[M]? = some (.map es clock)) {n : Int} {z : Value}
    (hf : Instr.findNow (.int .i64) (.int .i64 n) es.toList 0 = some none) (hz : (zeroValue et).run P W = .ok z W) : (Instr.lookup t (.map (some M)) (.int .i64 n) true).run P W = .ok (.tuple #[z, .bool false]) W := by
  simp [Instr.lookup, run_underlying ht, MapKept.run_getObj_map hb, MapKept.run_checkKey hk (k := .int .i64 n) (by simp [MapKept.IsKey]) _ 9999, MapKept.run_findKey hk hf, hz, Result.andThen]
section
theorem ins_0 (v0 : Value) (W : World) (b : Nat) (hb : b = W.heap.size) :
    (Instr.mapUpdate 139 (.map (some b)) (.int .i64 0) v0).run Tryz.prog (W.alloc (.map #[] 0)) = .ok () (W.alloc (.map #[⟨.int .i64 0, v0, 0⟩] 1)) :=
  run_insert_top W _ _ _ Tryz.underlying139 Tryz.underlying3 _ _ _ _ b hb rfl
theorem ins_1 (v0 v1 : Value) (W : World) (b : Nat) (hb : b = W.heap.size) :
    (Instr.mapUpdate 139 (.map (some b)) (.int .i64 1) v1).run Tryz.prog (W.alloc (.map #[⟨.int .i64 0, v0, 0⟩] 1)) = .ok () (W.alloc (.map #[⟨.int .i64 0, v0, 0⟩, ⟨.int .i64 1, v1, 1⟩] 2)) :=
  run_insert_top W _ _ _ Tryz.underlying139 Tryz.underlying3 _ _ _ _ b hb rfl
theorem ins_2 (v0 v1 v2 : Value) (W : World) (b : Nat) (hb : b = W.heap.size) :
    (Instr.mapUpdate 139 (.map (some b)) (.int .i64 2) v2).run Tryz.prog (W.alloc (.map #[⟨.int .i64 0, v0, 0⟩, ⟨.int .i64 1, v1, 1⟩] 2)) = .ok () (W.alloc (.map #[⟨.int .i64 0, v0, 0⟩, ⟨.int .i64 1, v1, 1⟩, ⟨.int .i64 2, v2, 2⟩] 3)) :=
  run_insert_top W _ _ _ Tryz.underlying139 Tryz.underlying3 _ _ _ _ b hb rfl
theorem ins_3 (v0 v1 v2 v3 : Value) (W : World) (b : Nat) (hb : b = W.heap.size) :
    (Instr.mapUpdate 139 (.map (some b)) (.int .i64 3) v3).run Tryz.prog (W.alloc (.map #[⟨.int .i64 0, v0, 0⟩, ⟨.int .i64 1, v1, 1⟩, ⟨.int .i64 2, v2, 2⟩] 3)) = .ok () (W.alloc (.map #[⟨.int .i64 0, v0, 0⟩, ⟨.int .i64 1, v1, 1⟩, ⟨.int .i64 2, v2, 2⟩, ⟨.int .i64 3, v3, 3⟩] 4)) :=
  run_insert_top W _ _ _ Tryz.underlying139 Tryz.underlying3 _ _ _ _ b hb rfl
theorem ins_4 (v0 v1 v2 v3 v4 : Value) (W : World) (b : Nat) (hb : b = W.heap.size) :
    (Instr.mapUpdate 139 (.map (some b)) (.int .i64 4) v4).run Tryz.prog (W.alloc (.map #[⟨.int .i64 0, v0, 0⟩, ⟨.int .i64 1, v1, 1⟩, ⟨.int .i64 2, v2, 2⟩, ⟨.int .i64 3, v3, 3⟩] 4)) = .ok () (W.alloc (.map #[⟨.int .i64 0, v0, 0⟩, ⟨.int .i64 1, v1, 1⟩, ⟨.int .i64 2, v2, 2⟩, ⟨.int .i64 3, v3, 3⟩, ⟨.int .i64 4, v4, 4⟩] 5)) :=
  run_insert_top W _ _ _ Tryz.underlying139 Tryz.underlying3 _ _ _ _ b hb rfl
theorem ins_5 (v0 v1 v2 v3 v4 v5 : Value) (W : World) (b : Nat) (hb : b = W.heap.size) :
    (Instr.mapUpdate 139 (.map (some b)) (.int .i64 5) v5).run Tryz.prog (W.alloc (.map #[⟨.int .i64 0, v0, 0⟩, ⟨.int .i64 1, v1, 1⟩, ⟨.int .i64 2, v2, 2⟩, ⟨.int .i64 3, v3, 3⟩, ⟨.int .i64 4, v4, 4⟩] 5)) = .ok () (W.alloc (.map #[⟨.int .i64 0, v0, 0⟩, ⟨.int .i64 1, v1, 1⟩, ⟨.int .i64 2, v2, 2⟩, ⟨.int .i64 3, v3, 3⟩, ⟨.int .i64 4, v4, 4⟩, ⟨.int .i64 5, v5, 5⟩] 6)) :=
  run_insert_top W _ _ _ Tryz.underlying139 Tryz.underlying3 _ _ _ _ b hb rfl
theorem ins_6 (v0 v1 v2 v3 v4 v5 v6 : Value) (W : World) (b : Nat) (hb : b = W.heap.size) :
    (Instr.mapUpdate 139 (.map (some b)) (.int .i64 6) v6).run Tryz.prog (W.alloc (.map #[⟨.int .i64 0, v0, 0⟩, ⟨.int .i64 1, v1, 1⟩, ⟨.int .i64 2, v2, 2⟩, ⟨.int .i64 3, v3, 3⟩, ⟨.int .i64 4, v4, 4⟩, ⟨.int .i64 5, v5, 5⟩] 6)) = .ok () (W.alloc (.map #[⟨.int .i64 0, v0, 0⟩, ⟨.int .i64 1, v1, 1⟩, ⟨.int .i64 2, v2, 2⟩, ⟨.int .i64 3, v3, 3⟩, ⟨.int .i64 4, v4, 4⟩, ⟨.int .i64 5, v5, 5⟩, ⟨.int .i64 6, v6, 6⟩] 7)) :=
  run_insert_top W _ _ _ Tryz.underlying139 Tryz.underlying3 _ _ _ _ b hb rfl
theorem ins_7 (v0 v1 v2 v3 v4 v5 v6 v7 : Value) (W : World) (b : Nat) (hb : b = W.heap.size) :
    (Instr.mapUpdate 139 (.map (some b)) (.int .i64 7) v7).run Tryz.prog (W.alloc (.map #[⟨.int .i64 0, v0, 0⟩, ⟨.int .i64 1, v1, 1⟩, ⟨.int .i64 2, v2, 2⟩, ⟨.int .i64 3, v3, 3⟩, ⟨.int .i64 4, v4, 4⟩, ⟨.int .i64 5, v5, 5⟩, ⟨.int .i64 6, v6, 6⟩] 7)) = .ok () (W.alloc (.map #[⟨.int .i64 0, v0, 0⟩, ⟨.int .i64 1, v1, 1⟩, ⟨.int .i64 2, v2, 2⟩, ⟨.int .i64 3, v3, 3⟩, ⟨.int .i64 4, v4, 4⟩, ⟨.int .i64 5, v5, 5⟩, ⟨.int .i64 6, v6, 6⟩, ⟨.int .i64 7, v7, 7⟩] 8)) :=
  run_insert_top W _ _ _ Tryz.underlying139 Tryz.underlying3 _ _ _ _ b hb rfl
attribute [local go_sem] ins_0 ins_1 ins_2 ins_3 ins_4 ins_5 ins_6 ins_7
abbrev fnOut (O : Nat) : Value := .func (.func 289) #[] #[.pointer (some ⟨O, 0, none⟩)]
abbrev fnCarry (F : Nat) : Value := .func (.func 290) #[] #[.pointer (some ⟨F, 0, none⟩)]
abbrev fnZero : Value := .func (.func 291) #[] #[]
abbrev fnTop (B : Nat) : Value := .func (.func 292) #[] #[.pointer (some ⟨B, 0, none⟩)]
abbrev fnOne : Value := .func (.func 293) #[] #[]
def kindEnts (B F O : Nat) : Array MapEntry := #[⟨.int .i64 0, fnOut O, 0⟩, ⟨.int .i64 1, fnOut O, 1⟩, ⟨.int .i64 2, fnCarry F, 2⟩, ⟨.int .i64 3, fnCarry F, 3⟩, ⟨.int .i64 4, fnZero, 4⟩, ⟨.int .i64 5, fnTop B, 5⟩, ⟨.int .i64 6, fnOne, 6⟩, ⟨.int .i64 7, fnZero, 7⟩]
def Kinds (w : World) (B F O M : Nat) (b f : Int) (o : Bool) : Prop :=
  (w.cell? ⟨B, 0, none⟩ = some (.int .u8 b) ∧ w.cell? ⟨F, 0, none⟩ = some (.int .u8 f) ∧ w.cell? ⟨O, 0, none⟩ = some (.bool o)) ∧ w.heap[M]? = some (.map (kindEnts B F O) 8)
theorem entering_any (b f : Int) (o : Bool) (w : World) :
    Calls Tryz.prog 262 #[.int .u8 b, .int .u8 f, .bool o] w fun e w' => ∃ B F O M, e = .returned (.map (some M)) ∧ Kinds w' B F O M b f o ∧ Below w.heap.size w w' := by
  have hmm := @run_makeMap Tryz.prog
  go_enter Tryz.func262, Tryz.ntmps262
  go_wp2
  go_ret
  have c1 := cell_new w (.int .u8 b) 5
  have c2 := cell_new (w.alloc (.cells #[.int .u8 b] 5)) (.int .u8 f) 5
  have c3 := cell_new ((w.alloc (.cells #[.int .u8 b] 5)).alloc (.cells #[.int .u8 f] 5)) (.bool o) 4
  simp only [World.size_alloc] at c2 c3
  refine ⟨w.heap.size, w.heap.size + 1, w.heap.size + 1 + 1, w.heap.size + 1 + 1 + 1, rfl, ⟨⟨cell_under _ _ (cell_under _ _ (cell_under _ _ c1)), cell_under _ _ (cell_under _ _ c2), cell_under _ _ c3⟩, ?_⟩, (by repeat (first | exact Below.refl _ _ | assumption | refine bstep ?_ (by assumption) | refine Below.drew ?_ | refine Below.alloc ?_ (by first | (simp; done) | (simp; omega) | omega) _ | refine Below.setCell ?_ (by first | (simp; done) | (simp; omega) | omega) _))⟩
  have h := (MapKept.heap_alloc (((w.alloc (.cells #[.int .u8 b] 5)).alloc (.cells #[.int .u8 f] 5)).alloc (.cells #[.bool o] 4)) (.map (kindEnts w.heap.size (w.heap.size + 1) (w.heap.size + 1 + 1)) 8)).1
  simp only [World.size_alloc] at h
  exact h
theorem fnOut_any (O : Nat) (o : Bool) (w : World) (h : w.cell? ⟨O, 0, none⟩ = some (.bool o)) :
    Calls Tryz.prog 289 #[.pointer (some ⟨O, 0, none⟩)] w fun e w' => e = .returned (.bool o) ∧ w = w' := by
  go_enter Tryz.func289, Tryz.ntmps289
  go_wp2
  go_ret
  exact ⟨rfl, rfl⟩
theorem low_bit (f : Int) (h : B8 f) : (bits .and .u8 f 1 != 0) = isM f 0 := by
  rw [low_all f h]
  cases isM f 0 <;> rfl
theorem fnCarry_any (F : Nat) (f : Int) (hf : B8 f) (w : World) (h : w.cell? ⟨F, 0, none⟩ = some (.int .u8 f)) :
    Calls Tryz.prog 290 #[.pointer (some ⟨F, 0, none⟩)] w fun e w' => e = .returned (.bool (isM f 0)) ∧ w = w' := by
  have hl := Lib.hid (low_bit f hf)
  go_enter Tryz.func290, Tryz.ntmps290
  go_wp2
  go_ret
  exact ⟨ret_bool hl.out, rfl⟩
theorem fnZero_any (w : World) :
    Calls Tryz.prog 291 #[] w fun e w' => e = .returned (.bool false) ∧ w = w' := by
  go_enter Tryz.func291, Tryz.ntmps291
  go_wp2
  go_ret
  exact ⟨rfl, rfl⟩
theorem fnTop_any (B : Nat) (b : Int) (hb : B8 b) (w : World) (h : w.cell? ⟨B, 0, none⟩ = some (.int .u8 b)) :
    Calls Tryz.prog 292 #[.pointer (some ⟨B, 0, none⟩)] w fun e w' => e = .returned (.bool (isM b 7)) ∧ w = w' := by
  go_enter Tryz.func292, Tryz.ntmps292
  go_wp2_with (first
    | (go_at_call 199; refine (is_any _ _ (B8.lo (by assumption)) (B8.hi (by assumption)) _).mono ?_; rintro e w' ⟨rfl, rfl⟩))
  go_ret
  exact ⟨rfl, rfl⟩
theorem fnOne_any (w : World) :
    Calls Tryz.prog 293 #[] w fun e w' => e = .returned (.bool true) ∧ w = w' := by
  go_enter Tryz.func293, Tryz.ntmps293
  go_wp2
  go_ret
  exact ⟨rfl, rfl⟩
theorem look_0 {w : World} {B F O M : Nat} (h : w.heap[M]? = some (.map (kindEnts B F O) 8)) : (Instr.lookup 139 (.map (some M)) (.int .i64 0) true).run Tryz.prog w = .ok (.tuple #[fnOut O, .bool true]) w :=
  run_look Tryz.underlying139 Tryz.underlying3 h rfl
theorem look_1 {w : World} {B F O M : Nat} (h : w.heap[M]? = some (.map (kindEnts B F O) 8)) : (Instr.lookup 139 (.map (some M)) (.int .i64 1) true).run Tryz.prog w = .ok (.tuple #[fnOut O, .bool true]) w :=
  run_look Tryz.underlying139 Tryz.underlying3 h rfl
theorem look_2 {w : World} {B F O M : Nat} (h : w.heap[M]? = some (.map (kindEnts B F O) 8)) : (Instr.lookup 139 (.map (some M)) (.int .i64 2) true).run Tryz.prog w = .ok (.tuple #[fnCarry F, .bool true]) w :=
  run_look Tryz.underlying139 Tryz.underlying3 h rfl
theorem look_3 {w : World} {B F O M : Nat} (h : w.heap[M]? = some (.map (kindEnts B F O) 8)) : (Instr.lookup 139 (.map (some M)) (.int .i64 3) true).run Tryz.prog w = .ok (.tuple #[fnCarry F, .bool true]) w :=
  run_look Tryz.underlying139 Tryz.underlying3 h rfl
theorem look_4 {w : World} {B F O M : Nat} (h : w.heap[M]? = some (.map (kindEnts B F O) 8)) : (Instr.lookup 139 (.map (some M)) (.int .i64 4) true).run Tryz.prog w = .ok (.tuple #[fnZero, .bool true]) w :=
  run_look Tryz.underlying139 Tryz.underlying3 h rfl
theorem look_5 {w : World} {B F O M : Nat} (h : w.heap[M]? = some (.map (kindEnts B F O) 8)) : (Instr.lookup 139 (.map (some M)) (.int .i64 5) true).run Tryz.prog w = .ok (.tuple #[fnTop B, .bool true]) w :=
  run_look Tryz.underlying139 Tryz.underlying3 h rfl
theorem look_6 {w : World} {B F O M : Nat} (h : w.heap[M]? = some (.map (kindEnts B F O) 8)) : (Instr.lookup 139 (.map (some M)) (.int .i64 6) true).run Tryz.prog w = .ok (.tuple #[fnOne, .bool true]) w :=
  run_look Tryz.underlying139 Tryz.underlying3 h rfl
theorem look_7 {w : World} {B F O M : Nat} (h : w.heap[M]? = some (.map (kindEnts B F O) 8)) : (Instr.lookup 139 (.map (some M)) (.int .i64 7) true).run Tryz.prog w = .ok (.tuple #[fnZero, .bool true]) w :=
  run_look Tryz.underlying139 Tryz.underlying3 h rfl
theorem look_no {w : World} {B F O M : Nat} {k : Int} (hk : k < 0 ∨ 8 ≤ k) (h : w.heap[M]? = some (.map (kindEnts B F O) 8)) : (Instr.lookup 139 (.map (some M)) (.int .i64 k) true).run Tryz.prog w = .ok (.tuple #[.nilFunc, .bool false]) w :=
  run_look_no Tryz.underlying139 Tryz.underlying3 h (by
    have n0 : (k == 0) = false := by simp; omega
    have n1 : (k == 1) = false := by simp; omega
    have n2 : (k == 2) = false := by simp; omega
    have n3 : (k == 3) = false := by simp; omega
    have n4 : (k == 4) = false := by simp; omega
    have n5 : (k == 5) = false := by simp; omega
    have n6 : (k == 6) = false := by simp; omega
    have n7 : (k == 7) = false := by simp; omega
    simp only [kindEnts, Instr.findNow, Instr.sameNow, if_true, n0, n1, n2, n3, n4, n5, n6, n7]) (by kernel_rfl)
end
def Courses (w : World) : Prop := w.cell? ⟨1, 0, none⟩ = some (.int .i64 1) ∧ w.cell? ⟨1, 1, none⟩ = some (.int .i64 7) ∧ w.cell? ⟨1, 2, none⟩ = some (.int .i64 0) ∧ w.cell? ⟨1, 3, none⟩ = some (.int .i64 (-1)) ∧ w.cell? ⟨1, 4, none⟩ = some (.int .i64 0) ∧ w.cell? ⟨1, 5, none⟩ = some (.int .i64 7)
theorem Courses.below {w w' : World} (h : Courses w) (k : Below w.heap.size w w') : Courses w' := by
  obtain ⟨h0, h1, h2, h3, h4, h5⟩ := h
  exact ⟨cell_kept h0 k, cell_kept h1 k, cell_kept h2 k, cell_kept h3 k, cell_kept h4 k, cell_kept h5 k⟩
theorem and1_i64 (y : Int) : bits BinOp.and IntKind.i64 y 1 = y % 2 := by
  have e : (BitVec.ofInt 64 y &&& BitVec.ofInt 64 1).toNat = (y % 2).toNat := by
    rw [BitVec.toNat_and, show (BitVec.ofInt 64 1).toNat = 2 ^ 1 - 1 by decide, Nat.and_two_pow_sub_one_eq_mod, BitVec.toNat_ofInt]
    omega
  show IntKind.i64.wrap ((BitVec.ofInt 64 y &&& BitVec.ofInt 64 1).toNat : Int) = _
  rw [e, IntKind.wrap_i64]
  omega
theorem scarry_any (o : Bool) (w : World) :
    Calls Tryz.prog 195 #[.bool o] w fun e w' => e = .returned (.int .u8 (one o)) ∧ w = w' := by
  cases o
  all_goals
    go_enter Tryz.func195, Tryz.ntmps195
    go_wp2
    go_ret
    exact ⟨rfl, rfl⟩
theorem new3 (w : World) (u v x : Value) (t : TypeId) : (w.alloc (.cells #[u, v, x] t)).cell? ⟨w.heap.size, 0, none⟩ = some u ∧ (w.alloc (.cells #[u, v, x] t)).cell? ⟨w.heap.size, 1, none⟩ = some v ∧ (w.alloc (.cells #[u, v, x] t)).cell? ⟨w.heap.size, 2, none⟩ = some x := by
  have e : ∀ o : Obj, (w.alloc o).heap[w.heap.size]? = some o := fun o => by
    show (w.heap.push _)[w.heap.size]? = _
    simp
  refine ⟨?_, ?_, ?_⟩ <;> (simp only [World.cell?, e]; rfl)
theorem hold3 {w w' : World} {p q r : Addr} {u v x : Value} (k : Below w.heap.size w w') (h : w.cell? p = some u ∧ w.cell? q = some v ∧ w.cell? r = some x) : w'.cell? p = some u ∧ w'.cell? q = some v ∧ w'.cell? r = some x :=
  ⟨cell_kept h.1 k, cell_kept h.2.1 k, cell_kept h.2.2 k⟩
theorem last3 {p q r : Prop} (h : p ∧ q ∧ r) : r := h.2.2
abbrev moved (r : Int) (o k : Bool) : Value := .tuple #[.int .u8 r, .bool o, .bool k]
theorem move_0 (b f : Int) (hb : B8 b) (hf : B8 f) (w : World) (hd : Courses w) :
    Calls Tryz.prog 193 #[.int .i64 0, .int .u8 b, .int .u8 f] w fun e w' => e = .returned (moved (shM 0 b f) (soutM 0 b) true) ∧ Below w.heap.size w w' := by
  have hB := hb
  clear hb
  obtain ⟨d0, d1, d2, d3, d4, d5⟩ := hd
  have ka := and1_i64 0
  simp only [show (0 : Int) % 2 = 0 by decide] at ka
  have ht : B8 (turnM b 1) := turnM_byte b 1 hB.1 hB.2
  go_enter Tryz.func193, Tryz.ntmps193
  go_wp2_with (first
    | (go_at_call 199; refine (is_any _ _ (B8.lo (by assumption)) (B8.hi (by assumption)) _).mono ?_; rintro e w' ⟨rfl, rfl⟩)
    | (go_at_call 262; refine (entering_any _ _ _ _).mono ?_; rintro e w' ⟨B, F, O, M, rfl, ⟨⟨c1, c2, c3⟩, hm⟩, hb⟩; have hl := look_0 hm))
  have k0 : w'.cell? ⟨w.heap.size, 0, none⟩ = some (.int .i64 1) := cell_kept (new3 w _ _ _ _).1 hb
  have k2 : w'.cell? ⟨w.heap.size, 2, none⟩ = some (.int .i64 0) := cell_kept (new3 w _ _ _ _).2.2 hb
  have hsz := hb.size
  simp only [World.size_alloc] at hsz
  have hs : w'.cell? ⟨w.heap.size, 0, none⟩ = some (.int .i64 1) ∧ w'.cell? ⟨w.heap.size, 2, none⟩ = some (.int .i64 0) ∧ w'.cell? ⟨O, 0, none⟩ = some (.bool (isM b 7)) := ⟨k0, k2, c3⟩
  have hb0 : Below w.heap.size w w' := (by repeat (first | exact Below.refl _ _ | assumption | refine bstep ?_ (by assumption) | refine Below.drew ?_ | refine Below.alloc ?_ (by first | (simp; done) | (simp; omega) | omega) _ | refine Below.setCell ?_ (by first | (simp; done) | (simp; omega) | omega) _))
  clear hb k0 k2 c1 c2 c3 hl hm d0 d1 d2 d3 d4 d5 ka
  go_region_held3 (fun w' => w'.cell? ⟨w.heap.size, 0, none⟩ = some (.int .i64 1) ∧ w'.cell? ⟨w.heap.size, 2, none⟩ = some (.int .i64 0) ∧ w'.cell? ⟨O, 0, none⟩ = some (.bool (isM b 7))) (first | go_keep | exact hold3 hb (by assumption))
    (first
    | (go_at_call 263; refine (turn_any _ _ (B8.lo (by assumption)) (B8.hi (by assumption)) _).mono ?_; rintro e w' ⟨rfl, hb⟩; have hsz := hb.size)
    | (go_at_call 289; refine (fnOut_any O (isM b 7) _ (last3 (by assumption))).mono ?_; rintro e w' ⟨rfl, rfl⟩)
    | (go_at_call 108; refine (with_any _ _ _ (B8.lo (by assumption)) (B8.hi (by assumption)) _).mono ?_; rintro e w' ⟨rfl, rfl⟩))
  go_wp2_with fail
  go_ret3
  exact ⟨rfl, (by repeat (first | exact Below.refl _ _ | assumption | refine bstep ?_ (by assumption) | refine Below.drew ?_ | refine Below.alloc ?_ (by first | (simp; done) | (simp; omega) | omega) _ | refine Below.setCell ?_ (by first | (simp; done) | (simp; omega) | omega) _))⟩
theorem move_1 (b f : Int) (hb : B8 b) (hf : B8 f) (w : World) (hd : Courses w) :
    Calls Tryz.prog 193 #[.int .i64 1, .int .u8 b, .int .u8 f] w fun e w' => e = .returned (moved (shM 1 b f) (soutM 1 b) true) ∧ Below w.heap.size w w' := by
  have hB := hb
  clear hb
  obtain ⟨d0, d1, d2, d3, d4, d5⟩ := hd
  have ka := and1_i64 1
  simp only [show (1 : Int) % 2 = 1 by decide] at ka
  have ht : B8 (turnM b (-1)) := turnM_byte b (-1) hB.1 hB.2
  go_enter Tryz.func193, Tryz.ntmps193
  go_wp2_with (first
    | (go_at_call 199; refine (is_any _ _ (B8.lo (by assumption)) (B8.hi (by assumption)) _).mono ?_; rintro e w' ⟨rfl, rfl⟩)
    | (go_at_call 262; refine (entering_any _ _ _ _).mono ?_; rintro e w' ⟨B, F, O, M, rfl, ⟨⟨c1, c2, c3⟩, hm⟩, hb⟩; have hl := look_1 hm))
  have k0 : w'.cell? ⟨w.heap.size, 0, none⟩ = some (.int .i64 (-1)) := cell_kept (new3 w _ _ _ _).1 hb
  have k2 : w'.cell? ⟨w.heap.size, 2, none⟩ = some (.int .i64 7) := cell_kept (new3 w _ _ _ _).2.2 hb
  have hsz := hb.size
  simp only [World.size_alloc] at hsz
  have hs : w'.cell? ⟨w.heap.size, 0, none⟩ = some (.int .i64 (-1)) ∧ w'.cell? ⟨w.heap.size, 2, none⟩ = some (.int .i64 7) ∧ w'.cell? ⟨O, 0, none⟩ = some (.bool (isM b 0)) := ⟨k0, k2, c3⟩
  have hb0 : Below w.heap.size w w' := (by repeat (first | exact Below.refl _ _ | assumption | refine bstep ?_ (by assumption) | refine Below.drew ?_ | refine Below.alloc ?_ (by first | (simp; done) | (simp; omega) | omega) _ | refine Below.setCell ?_ (by first | (simp; done) | (simp; omega) | omega) _))
  clear hb k0 k2 c1 c2 c3 hl hm d0 d1 d2 d3 d4 d5 ka
  go_region_held3 (fun w' => w'.cell? ⟨w.heap.size, 0, none⟩ = some (.int .i64 (-1)) ∧ w'.cell? ⟨w.heap.size, 2, none⟩ = some (.int .i64 7) ∧ w'.cell? ⟨O, 0, none⟩ = some (.bool (isM b 0))) (first | go_keep | exact hold3 hb (by assumption))
    (first
    | (go_at_call 263; refine (turn_any _ _ (B8.lo (by assumption)) (B8.hi (by assumption)) _).mono ?_; rintro e w' ⟨rfl, hb⟩; have hsz := hb.size)
    | (go_at_call 289; refine (fnOut_any O (isM b 0) _ (last3 (by assumption))).mono ?_; rintro e w' ⟨rfl, rfl⟩)
    | (go_at_call 108; refine (with_any _ _ _ (B8.lo (by assumption)) (B8.hi (by assumption)) _).mono ?_; rintro e w' ⟨rfl, rfl⟩))
  go_wp2_with fail
  go_ret3
  exact ⟨rfl, (by repeat (first | exact Below.refl _ _ | assumption | refine bstep ?_ (by assumption) | refine Below.drew ?_ | refine Below.alloc ?_ (by first | (simp; done) | (simp; omega) | omega) _ | refine Below.setCell ?_ (by first | (simp; done) | (simp; omega) | omega) _))⟩
theorem move_2 (b f : Int) (hb : B8 b) (hf : B8 f) (w : World) (hd : Courses w) :
    Calls Tryz.prog 193 #[.int .i64 2, .int .u8 b, .int .u8 f] w fun e w' => e = .returned (moved (shM 2 b f) (soutM 2 b) true) ∧ Below w.heap.size w w' := by
  have hB := hb
  clear hb
  obtain ⟨d0, d1, d2, d3, d4, d5⟩ := hd
  have ka := and1_i64 2
  simp only [show (2 : Int) % 2 = 0 by decide] at ka
  have ht : B8 (turnM b 1) := turnM_byte b 1 hB.1 hB.2
  go_enter Tryz.func193, Tryz.ntmps193
  go_wp2_with (first
    | (go_at_call 199; refine (is_any _ _ (B8.lo (by assumption)) (B8.hi (by assumption)) _).mono ?_; rintro e w' ⟨rfl, rfl⟩)
    | (go_at_call 262; refine (entering_any _ _ _ _).mono ?_; rintro e w' ⟨B, F, O, M, rfl, ⟨⟨c1, c2, c3⟩, hm⟩, hb⟩; have hl := look_2 hm))
  have k0 : w'.cell? ⟨w.heap.size, 0, none⟩ = some (.int .i64 1) := cell_kept (new3 w _ _ _ _).1 hb
  have k2 : w'.cell? ⟨w.heap.size, 2, none⟩ = some (.int .i64 0) := cell_kept (new3 w _ _ _ _).2.2 hb
  have hsz := hb.size
  simp only [World.size_alloc] at hsz
  have hs : w'.cell? ⟨w.heap.size, 0, none⟩ = some (.int .i64 1) ∧ w'.cell? ⟨w.heap.size, 2, none⟩ = some (.int .i64 0) ∧ w'.cell? ⟨F, 0, none⟩ = some (.int .u8 f) := ⟨k0, k2, c2⟩
  have hb0 : Below w.heap.size w w' := (by repeat (first | exact Below.refl _ _ | assumption | refine bstep ?_ (by assumption) | refine Below.drew ?_ | refine Below.alloc ?_ (by first | (simp; done) | (simp; omega) | omega) _ | refine Below.setCell ?_ (by first | (simp; done) | (simp; omega) | omega) _))
  clear hb k0 k2 c1 c2 c3 hl hm d0 d1 d2 d3 d4 d5 ka
  go_region_held3 (fun w' => w'.cell? ⟨w.heap.size, 0, none⟩ = some (.int .i64 1) ∧ w'.cell? ⟨w.heap.size, 2, none⟩ = some (.int .i64 0) ∧ w'.cell? ⟨F, 0, none⟩ = some (.int .u8 f)) (first | go_keep | exact hold3 hb (by assumption))
    (first
    | (go_at_call 263; refine (turn_any _ _ (B8.lo (by assumption)) (B8.hi (by assumption)) _).mono ?_; rintro e w' ⟨rfl, hb⟩; have hsz := hb.size)
    | (go_at_call 290; refine (fnCarry_any F f hf _ (last3 (by assumption))).mono ?_; rintro e w' ⟨rfl, rfl⟩)
    | (go_at_call 108; refine (with_any _ _ _ (B8.lo (by assumption)) (B8.hi (by assumption)) _).mono ?_; rintro e w' ⟨rfl, rfl⟩))
  go_wp2_with fail
  go_ret3
  exact ⟨rfl, (by repeat (first | exact Below.refl _ _ | assumption | refine bstep ?_ (by assumption) | refine Below.drew ?_ | refine Below.alloc ?_ (by first | (simp; done) | (simp; omega) | omega) _ | refine Below.setCell ?_ (by first | (simp; done) | (simp; omega) | omega) _))⟩
theorem move_3 (b f : Int) (hb : B8 b) (hf : B8 f) (w : World) (hd : Courses w) :
    Calls Tryz.prog 193 #[.int .i64 3, .int .u8 b, .int .u8 f] w fun e w' => e = .returned (moved (shM 3 b f) (soutM 3 b) true) ∧ Below w.heap.size w w' := by
  have hB := hb
  clear hb
  obtain ⟨d0, d1, d2, d3, d4, d5⟩ := hd
  have ka := and1_i64 3
  simp only [show (3 : Int) % 2 = 1 by decide] at ka
  have ht : B8 (turnM b (-1)) := turnM_byte b (-1) hB.1 hB.2
  go_enter Tryz.func193, Tryz.ntmps193
  go_wp2_with (first
    | (go_at_call 199; refine (is_any _ _ (B8.lo (by assumption)) (B8.hi (by assumption)) _).mono ?_; rintro e w' ⟨rfl, rfl⟩)
    | (go_at_call 262; refine (entering_any _ _ _ _).mono ?_; rintro e w' ⟨B, F, O, M, rfl, ⟨⟨c1, c2, c3⟩, hm⟩, hb⟩; have hl := look_3 hm))
  have k0 : w'.cell? ⟨w.heap.size, 0, none⟩ = some (.int .i64 (-1)) := cell_kept (new3 w _ _ _ _).1 hb
  have k2 : w'.cell? ⟨w.heap.size, 2, none⟩ = some (.int .i64 7) := cell_kept (new3 w _ _ _ _).2.2 hb
  have hsz := hb.size
  simp only [World.size_alloc] at hsz
  have hs : w'.cell? ⟨w.heap.size, 0, none⟩ = some (.int .i64 (-1)) ∧ w'.cell? ⟨w.heap.size, 2, none⟩ = some (.int .i64 7) ∧ w'.cell? ⟨F, 0, none⟩ = some (.int .u8 f) := ⟨k0, k2, c2⟩
  have hb0 : Below w.heap.size w w' := (by repeat (first | exact Below.refl _ _ | assumption | refine bstep ?_ (by assumption) | refine Below.drew ?_ | refine Below.alloc ?_ (by first | (simp; done) | (simp; omega) | omega) _ | refine Below.setCell ?_ (by first | (simp; done) | (simp; omega) | omega) _))
  clear hb k0 k2 c1 c2 c3 hl hm d0 d1 d2 d3 d4 d5 ka
  go_region_held3 (fun w' => w'.cell? ⟨w.heap.size, 0, none⟩ = some (.int .i64 (-1)) ∧ w'.cell? ⟨w.heap.size, 2, none⟩ = some (.int .i64 7) ∧ w'.cell? ⟨F, 0, none⟩ = some (.int .u8 f)) (first | go_keep | exact hold3 hb (by assumption))
    (first
    | (go_at_call 263; refine (turn_any _ _ (B8.lo (by assumption)) (B8.hi (by assumption)) _).mono ?_; rintro e w' ⟨rfl, hb⟩; have hsz := hb.size)
    | (go_at_call 290; refine (fnCarry_any F f hf _ (last3 (by assumption))).mono ?_; rintro e w' ⟨rfl, rfl⟩)
    | (go_at_call 108; refine (with_any _ _ _ (B8.lo (by assumption)) (B8.hi (by assumption)) _).mono ?_; rintro e w' ⟨rfl, rfl⟩))
  go_wp2_with fail
  go_ret3
  exact ⟨rfl, (by repeat (first | exact Below.refl _ _ | assumption | refine bstep ?_ (by assumption) | refine Below.drew ?_ | refine Below.alloc ?_ (by first | (simp; done) | (simp; omega) | omega) _ | refine Below.setCell ?_ (by first | (simp; done) | (simp; omega) | omega) _))⟩
theorem move_4 (b f : Int) (hb : B8 b) (hf : B8 f) (w : World) (hd : Courses w) :
    Calls Tryz.prog 193 #[.int .i64 4, .int .u8 b, .int .u8 f] w fun e w' => e = .returned (moved (shM 4 b f) (soutM 4 b) true) ∧ Below w.heap.size w w' := by
  have hB := hb
  clear hb
  obtain ⟨d0, d1, d2, d3, d4, d5⟩ := hd
  have ka := and1_i64 4
  simp only [show (4 : Int) % 2 = 0 by decide] at ka
  have ht : B8 (turnM b 1) := turnM_byte b 1 hB.1 hB.2
  go_enter Tryz.func193, Tryz.ntmps193
  go_wp2_with (first
    | (go_at_call 199; refine (is_any _ _ (B8.lo (by assumption)) (B8.hi (by assumption)) _).mono ?_; rintro e w' ⟨rfl, rfl⟩)
    | (go_at_call 262; refine (entering_any _ _ _ _).mono ?_; rintro e w' ⟨B, F, O, M, rfl, ⟨⟨c1, c2, c3⟩, hm⟩, hb⟩; have hl := look_4 hm))
  have k0 : w'.cell? ⟨w.heap.size, 0, none⟩ = some (.int .i64 1) := cell_kept (new3 w _ _ _ _).1 hb
  have k2 : w'.cell? ⟨w.heap.size, 2, none⟩ = some (.int .i64 0) := cell_kept (new3 w _ _ _ _).2.2 hb
  have hsz := hb.size
  simp only [World.size_alloc] at hsz
  have hs : w'.cell? ⟨w.heap.size, 0, none⟩ = some (.int .i64 1) ∧ w'.cell? ⟨w.heap.size, 2, none⟩ = some (.int .i64 0) ∧ w'.cell? ⟨O, 0, none⟩ = some (.bool (isM b 7)) := ⟨k0, k2, c3⟩
  have hb0 : Below w.heap.size w w' := (by repeat (first | exact Below.refl _ _ | assumption | refine bstep ?_ (by assumption) | refine Below.drew ?_ | refine Below.alloc ?_ (by first | (simp; done) | (simp; omega) | omega) _ | refine Below.setCell ?_ (by first | (simp; done) | (simp; omega) | omega) _))
  clear hb k0 k2 c1 c2 c3 hl hm d0 d1 d2 d3 d4 d5 ka
  go_region_held3 (fun w' => w'.cell? ⟨w.heap.size, 0, none⟩ = some (.int .i64 1) ∧ w'.cell? ⟨w.heap.size, 2, none⟩ = some (.int .i64 0) ∧ w'.cell? ⟨O, 0, none⟩ = some (.bool (isM b 7))) (first | go_keep | exact hold3 hb (by assumption))
    (first
    | (go_at_call 263; refine (turn_any _ _ (B8.lo (by assumption)) (B8.hi (by assumption)) _).mono ?_; rintro e w' ⟨rfl, hb⟩; have hsz := hb.size)
    | (go_at_call 291; refine (fnZero_any _).mono ?_; rintro e w' ⟨rfl, rfl⟩)
    | (go_at_call 108; refine (with_any _ _ _ (B8.lo (by assumption)) (B8.hi (by assumption)) _).mono ?_; rintro e w' ⟨rfl, rfl⟩))
  go_wp2_with fail
  go_ret3
  exact ⟨rfl, (by repeat (first | exact Below.refl _ _ | assumption | refine bstep ?_ (by assumption) | refine Below.drew ?_ | refine Below.alloc ?_ (by first | (simp; done) | (simp; omega) | omega) _ | refine Below.setCell ?_ (by first | (simp; done) | (simp; omega) | omega) _))⟩
theorem move_5 (b f : Int) (hb : B8 b) (hf : B8 f) (w : World) (hd : Courses w) :
    Calls Tryz.prog 193 #[.int .i64 5, .int .u8 b, .int .u8 f] w fun e w' => e = .returned (moved (shM 5 b f) (soutM 5 b) true) ∧ Below w.heap.size w w' := by
  have hB := hb
  clear hb
  obtain ⟨d0, d1, d2, d3, d4, d5⟩ := hd
  have ka := and1_i64 5
  simp only [show (5 : Int) % 2 = 1 by decide] at ka
  have ht : B8 (turnM b (-1)) := turnM_byte b (-1) hB.1 hB.2
  go_enter Tryz.func193, Tryz.ntmps193
  go_wp2_with (first
    | (go_at_call 199; refine (is_any _ _ (B8.lo (by assumption)) (B8.hi (by assumption)) _).mono ?_; rintro e w' ⟨rfl, rfl⟩)
    | (go_at_call 262; refine (entering_any _ _ _ _).mono ?_; rintro e w' ⟨B, F, O, M, rfl, ⟨⟨c1, c2, c3⟩, hm⟩, hb⟩; have hl := look_5 hm))
  have k0 : w'.cell? ⟨w.heap.size, 0, none⟩ = some (.int .i64 (-1)) := cell_kept (new3 w _ _ _ _).1 hb
  have k2 : w'.cell? ⟨w.heap.size, 2, none⟩ = some (.int .i64 7) := cell_kept (new3 w _ _ _ _).2.2 hb
  have hsz := hb.size
  simp only [World.size_alloc] at hsz
  have hs : w'.cell? ⟨w.heap.size, 0, none⟩ = some (.int .i64 (-1)) ∧ w'.cell? ⟨w.heap.size, 2, none⟩ = some (.int .i64 7) ∧ w'.cell? ⟨B, 0, none⟩ = some (.int .u8 b) := ⟨k0, k2, c1⟩
  have hb0 : Below w.heap.size w w' := (by repeat (first | exact Below.refl _ _ | assumption | refine bstep ?_ (by assumption) | refine Below.drew ?_ | refine Below.alloc ?_ (by first | (simp; done) | (simp; omega) | omega) _ | refine Below.setCell ?_ (by first | (simp; done) | (simp; omega) | omega) _))
  clear hb k0 k2 c1 c2 c3 hl hm d0 d1 d2 d3 d4 d5 ka
  go_region_held3 (fun w' => w'.cell? ⟨w.heap.size, 0, none⟩ = some (.int .i64 (-1)) ∧ w'.cell? ⟨w.heap.size, 2, none⟩ = some (.int .i64 7) ∧ w'.cell? ⟨B, 0, none⟩ = some (.int .u8 b)) (first | go_keep | exact hold3 hb (by assumption))
    (first
    | (go_at_call 263; refine (turn_any _ _ (B8.lo (by assumption)) (B8.hi (by assumption)) _).mono ?_; rintro e w' ⟨rfl, hb⟩; have hsz := hb.size)
    | (go_at_call 292; refine (fnTop_any B b hB _ (last3 (by assumption))).mono ?_; rintro e w' ⟨rfl, rfl⟩)
    | (go_at_call 108; refine (with_any _ _ _ (B8.lo (by assumption)) (B8.hi (by assumption)) _).mono ?_; rintro e w' ⟨rfl, rfl⟩))
  go_wp2_with fail
  go_ret3
  exact ⟨rfl, (by repeat (first | exact Below.refl _ _ | assumption | refine bstep ?_ (by assumption) | refine Below.drew ?_ | refine Below.alloc ?_ (by first | (simp; done) | (simp; omega) | omega) _ | refine Below.setCell ?_ (by first | (simp; done) | (simp; omega) | omega) _))⟩
theorem move_6 (b f : Int) (hb : B8 b) (hf : B8 f) (w : World) (hd : Courses w) :
    Calls Tryz.prog 193 #[.int .i64 6, .int .u8 b, .int .u8 f] w fun e w' => e = .returned (moved (shM 6 b f) (soutM 6 b) true) ∧ Below w.heap.size w w' := by
  have hB := hb
  clear hb
  obtain ⟨d0, d1, d2, d3, d4, d5⟩ := hd
  have ka := and1_i64 6
  simp only [show (6 : Int) % 2 = 0 by decide] at ka
  have ht : B8 (turnM b 1) := turnM_byte b 1 hB.1 hB.2
  go_enter Tryz.func193, Tryz.ntmps193
  go_wp2_with (first
    | (go_at_call 199; refine (is_any _ _ (B8.lo (by assumption)) (B8.hi (by assumption)) _).mono ?_; rintro e w' ⟨rfl, rfl⟩)
    | (go_at_call 262; refine (entering_any _ _ _ _).mono ?_; rintro e w' ⟨B, F, O, M, rfl, ⟨⟨c1, c2, c3⟩, hm⟩, hb⟩; have hl := look_6 hm))
  have k0 : w'.cell? ⟨w.heap.size, 0, none⟩ = some (.int .i64 1) := cell_kept (new3 w _ _ _ _).1 hb
  have k2 : w'.cell? ⟨w.heap.size, 2, none⟩ = some (.int .i64 0) := cell_kept (new3 w _ _ _ _).2.2 hb
  have hsz := hb.size
  simp only [World.size_alloc] at hsz
  have hs : w'.cell? ⟨w.heap.size, 0, none⟩ = some (.int .i64 1) ∧ w'.cell? ⟨w.heap.size, 2, none⟩ = some (.int .i64 0) ∧ w'.cell? ⟨O, 0, none⟩ = some (.bool (isM b 7)) := ⟨k0, k2, c3⟩
  have hb0 : Below w.heap.size w w' := (by repeat (first | exact Below.refl _ _ | assumption | refine bstep ?_ (by assumption) | refine Below.drew ?_ | refine Below.alloc ?_ (by first | (simp; done) | (simp; omega) | omega) _ | refine Below.setCell ?_ (by first | (simp; done) | (simp; omega) | omega) _))
  clear hb k0 k2 c1 c2 c3 hl hm d0 d1 d2 d3 d4 d5 ka
  go_region_held3 (fun w' => w'.cell? ⟨w.heap.size, 0, none⟩ = some (.int .i64 1) ∧ w'.cell? ⟨w.heap.size, 2, none⟩ = some (.int .i64 0) ∧ w'.cell? ⟨O, 0, none⟩ = some (.bool (isM b 7))) (first | go_keep | exact hold3 hb (by assumption))
    (first
    | (go_at_call 263; refine (turn_any _ _ (B8.lo (by assumption)) (B8.hi (by assumption)) _).mono ?_; rintro e w' ⟨rfl, hb⟩; have hsz := hb.size)
    | (go_at_call 293; refine (fnOne_any _).mono ?_; rintro e w' ⟨rfl, rfl⟩)
    | (go_at_call 108; refine (with_any _ _ _ (B8.lo (by assumption)) (B8.hi (by assumption)) _).mono ?_; rintro e w' ⟨rfl, rfl⟩))
  go_wp2_with fail
  go_ret3
  exact ⟨rfl, (by repeat (first | exact Below.refl _ _ | assumption | refine bstep ?_ (by assumption) | refine Below.drew ?_ | refine Below.alloc ?_ (by first | (simp; done) | (simp; omega) | omega) _ | refine Below.setCell ?_ (by first | (simp; done) | (simp; omega) | omega) _))⟩
theorem move_7 (b f : Int) (hb : B8 b) (hf : B8 f) (w : World) (hd : Courses w) :
    Calls Tryz.prog 193 #[.int .i64 7, .int .u8 b, .int .u8 f] w fun e w' => e = .returned (moved (shM 7 b f) (soutM 7 b) true) ∧ Below w.heap.size w w' := by
  have hB := hb
  clear hb
  obtain ⟨d0, d1, d2, d3, d4, d5⟩ := hd
  have ka := and1_i64 7
  simp only [show (7 : Int) % 2 = 1 by decide] at ka
  have ht : B8 (turnM b (-1)) := turnM_byte b (-1) hB.1 hB.2
  go_enter Tryz.func193, Tryz.ntmps193
  go_wp2_with (first
    | (go_at_call 199; refine (is_any _ _ (B8.lo (by assumption)) (B8.hi (by assumption)) _).mono ?_; rintro e w' ⟨rfl, rfl⟩)
    | (go_at_call 262; refine (entering_any _ _ _ _).mono ?_; rintro e w' ⟨B, F, O, M, rfl, ⟨⟨c1, c2, c3⟩, hm⟩, hb⟩; have hl := look_7 hm))
  have k0 : w'.cell? ⟨w.heap.size, 0, none⟩ = some (.int .i64 (-1)) := cell_kept (new3 w _ _ _ _).1 hb
  have k2 : w'.cell? ⟨w.heap.size, 2, none⟩ = some (.int .i64 7) := cell_kept (new3 w _ _ _ _).2.2 hb
  have hsz := hb.size
  simp only [World.size_alloc] at hsz
  have hs : w'.cell? ⟨w.heap.size, 0, none⟩ = some (.int .i64 (-1)) ∧ w'.cell? ⟨w.heap.size, 2, none⟩ = some (.int .i64 7) ∧ w'.cell? ⟨O, 0, none⟩ = some (.bool (isM b 0)) := ⟨k0, k2, c3⟩
  have hb0 : Below w.heap.size w w' := (by repeat (first | exact Below.refl _ _ | assumption | refine bstep ?_ (by assumption) | refine Below.drew ?_ | refine Below.alloc ?_ (by first | (simp; done) | (simp; omega) | omega) _ | refine Below.setCell ?_ (by first | (simp; done) | (simp; omega) | omega) _))
  clear hb k0 k2 c1 c2 c3 hl hm d0 d1 d2 d3 d4 d5 ka
  go_region_held3 (fun w' => w'.cell? ⟨w.heap.size, 0, none⟩ = some (.int .i64 (-1)) ∧ w'.cell? ⟨w.heap.size, 2, none⟩ = some (.int .i64 7) ∧ w'.cell? ⟨O, 0, none⟩ = some (.bool (isM b 0))) (first | go_keep | exact hold3 hb (by assumption))
    (first
    | (go_at_call 263; refine (turn_any _ _ (B8.lo (by assumption)) (B8.hi (by assumption)) _).mono ?_; rintro e w' ⟨rfl, hb⟩; have hsz := hb.size)
    | (go_at_call 291; refine (fnZero_any _).mono ?_; rintro e w' ⟨rfl, rfl⟩)
    | (go_at_call 108; refine (with_any _ _ _ (B8.lo (by assumption)) (B8.hi (by assumption)) _).mono ?_; rintro e w' ⟨rfl, rfl⟩))
  go_wp2_with fail
  go_ret3
  exact ⟨rfl, (by repeat (first | exact Below.refl _ _ | assumption | refine bstep ?_ (by assumption) | refine Below.drew ?_ | refine Below.alloc ?_ (by first | (simp; done) | (simp; omega) | omega) _ | refine Below.setCell ?_ (by first | (simp; done) | (simp; omega) | omega) _))⟩
theorem move_yes (k b f : Int) (h0 : 0 ≤ k) (h1 : k < 8) (hb : B8 b) (hf : B8 f) (w : World) (hd : Courses w) :
    Calls Tryz.prog 193 #[.int .i64 k, .int .u8 b, .int .u8 f] w fun e w' => e = .returned (moved (shM k b f) (soutM k b) true) ∧ Below w.heap.size w w' := by
  obtain rfl | rfl | rfl | rfl | rfl | rfl | rfl | rfl : k = 0 ∨ k = 1 ∨ k = 2 ∨ k = 3 ∨ k = 4 ∨ k = 5 ∨ k = 6 ∨ k = 7 := by omega
  · exact move_0 b f hb hf w hd
  · exact move_1 b f hb hf w hd
  · exact move_2 b f hb hf w hd
  · exact move_3 b f hb hf w hd
  · exact move_4 b f hb hf w hd
  · exact move_5 b f hb hf w hd
  · exact move_6 b f hb hf w hd
  · exact move_7 b f hb hf w hd
theorem move_no (k b f : Int) (hk : k < 0 ∨ 8 ≤ k) (hb : B8 b) (hf : B8 f) (w : World) (hd : Courses w) :
    Calls Tryz.prog 193 #[.int .i64 k, .int .u8 b, .int .u8 f] w fun e w' => e = .returned (moved 0 false false) ∧ Below w.heap.size w w' := by
  have hB := hb
  clear hb
  obtain ⟨d0, d1, d2, d3, d4, d5⟩ := hd
  have ka := and1_i64 k
  have hk := Lib.hid hk
  obtain h2 | h2 : k % 2 = 0 ∨ k % 2 = 1 := by omega
  all_goals
    rw [h2] at ka
    clear h2
    go_enter Tryz.func193, Tryz.ntmps193
    go_wp2_with (first
      | (go_at_call 199; refine (is_any _ _ (B8.lo (by assumption)) (B8.hi (by assumption)) _).mono ?_; rintro e w' ⟨rfl, rfl⟩)
      | (go_at_call 262; refine (entering_any _ _ _ _).mono ?_; rintro e w' ⟨B, F, O, M, rfl, ⟨⟨c1, c2, c3⟩, hm⟩, hb⟩; have hl := look_no hk.out hm))
    go_ret3
    have hsz := hb.size
    simp only [World.size_alloc] at hsz
    exact ⟨rfl, (by repeat (first | exact Below.refl _ _ | assumption | refine bstep ?_ (by assumption) | refine Below.drew ?_ | refine Below.alloc ?_ (by first | (simp; done) | (simp; omega) | omega) _ | refine Below.setCell ?_ (by first | (simp; done) | (simp; omega) | omega) _))⟩
@[reducible] def cyC (c : Cy) : Array Value := #[.int .i64 c.kind, .int .u16 c.addr, .int .u8 c.data, .int .i64 c.t]
@[reducible] def cyV (c : Cy) : Value := .agg (cyC c)
def zeroCy : Cy := ⟨0, 0, 0, 0⟩
def zeroRg : Rg := ⟨0, 0, 0, 0, 0, 0, 0, 0, 0, 0, 0, 0, 0, 0, 0, false, false, false, false, 0⟩
def Modes (w : World) : Prop := w.cell? ⟨0, 0, none⟩ = some (.int .i64 0) ∧ w.cell? ⟨0, 1, none⟩ = some (.int .i64 0) ∧ w.cell? ⟨0, 2, none⟩ = some (.int .i64 1) ∧ w.cell? ⟨0, 3, none⟩ = some (.int .i64 2)
structure Tabs (w : World) (B : Nat) : Prop where
  masks : Masks w
  courses : Courses w
  digits : Digits w
  modes : Modes w
  gMasks : 2 < B
  gCourses : 1 < B
  gDigits : 3 < B
  gModes : 0 < B
theorem Tabs.keep {w w' : World} {B : Nat} (h : Tabs w B) (k : ∀ b, b < B → w'.heap[b]? = w.heap[b]?) : Tabs w' B := by
  have c : ∀ g i V, g < B → w.cell? ⟨g, i, none⟩ = some V → w'.cell? ⟨g, i, none⟩ = some V := fun g i V hg hc => (World.cell?_of_block (k g hg)).trans hc
  obtain ⟨m, cs, d, mo, g1, g2, g3, g4⟩ := h
  refine ⟨?_, ?_, ?_, ?_, g1, g2, g3, g4⟩
  · unfold Masks at m ⊢; simp only [c _ _ _ g1 m.1, c _ _ _ g1 m.2.1, c _ _ _ g1 m.2.2.1, c _ _ _ g1 m.2.2.2, and_self]
  · unfold Courses at cs ⊢; simp only [c _ _ _ g2 cs.1, c _ _ _ g2 cs.2.1, c _ _ _ g2 cs.2.2.1, c _ _ _ g2 cs.2.2.2.1, c _ _ _ g2 cs.2.2.2.2.1, c _ _ _ g2 cs.2.2.2.2.2, and_self]
  · unfold Digits at d ⊢; simp only [c _ _ _ g3 d.1, c _ _ _ g3 d.2.1, c _ _ _ g3 d.2.2.1, c _ _ _ g3 d.2.2.2.1, c _ _ _ g3 d.2.2.2.2.1, c _ _ _ g3 d.2.2.2.2.2.1, c _ _ _ g3 d.2.2.2.2.2.2.1, c _ _ _ g3 d.2.2.2.2.2.2.2, and_self]
  · unfold Modes at mo ⊢; simp only [c _ _ _ g4 mo.1, c _ _ _ g4 mo.2.1, c _ _ _ g4 mo.2.2.1, c _ _ _ g4 mo.2.2.2, and_self]
theorem Besides.drew {A S : Nat} {a w : World} (h : Besides A S a w) : Besides A S a w.drew := ⟨h.os, h.tape, h.output, h.size, h.block⟩
theorem Besides.setCells {A S : Nat} {a : World} {b : Nat} (hb : b = A ∨ b = S ∨ a.heap.size ≤ b) : ∀ (vs : List Value) (o : Nat) {w : World}, Besides A S a w → Besides A S a (w.setCells b o vs)
  | [], _, _, h => h
  | v :: r, o, _, h => Besides.setCells hb r (o + 1) (h.setCell (p := ⟨b, o, none⟩) hb v)
theorem Row.drew {w : World} {g : Nat} {t : TypeId} {cs : Array Value} (h : Row w g t cs) : Row w.drew g t cs := h
theorem BytesIn.drew {w : World} {B : Nat} {A : Option Addr} {xs : List Int} (h : BytesIn w B A xs) : BytesIn w.drew B A xs := h
@[reducible] def mC (s : Ms) (A : Option Addr) (n cap : Nat) : Array Value := #[.int .u16 s.r.af, .int .u16 s.r.bc, .int .u16 s.r.de, .int .u16 s.r.hl, .int .u16 s.r.af2, .int .u16 s.r.bc2, .int .u16 s.r.de2, .int .u16 s.r.hl2, .int .u16 s.r.ix, .int .u16 s.r.iy, .int .u16 s.r.sp, .int .u16 s.r.pc, .int .u16 s.r.wz, .int .u8 s.r.i, .int .u8 s.r.r, .bool s.r.iff1, .bool s.r.iff2, .bool s.r.halted, .bool s.r.late, .int .i64 s.r.mode, .slice A n cap, .int .i64 s.plane, .int .i64 s.x, .int .i64 s.y, .int .i64 s.z, .int .i64 s.p, .int .i64 s.q, .int .u16 s.spot, .bool s.near]
structure AtN (w : World) (p B : Nat) (s : Ms) (xs : List Int) : Prop where
  row : ∃ A cap, xs.length ≤ cap ∧ Row w p 46 (mC s A xs.length cap) ∧ BytesIn w B A xs
  low : B ≤ p
  bytes : Bytes8 xs
  ms : MsB s
  tabs : Tabs w B
theorem AtN.lt {w : World} {p B : Nat} {s : Ms} {xs : List Int} (h : AtN w p B s xs) : p < w.heap.size := by
  obtain ⟨A, cap, hc, hr, hb⟩ := h.row
  exact hr.lt
theorem AtN.below {w w' : World} {p B : Nat} {s : Ms} {xs : List Int} (h : AtN w p B s xs) (k : Below w.heap.size w w') : AtN w' p B s xs := by
  have hp := h.lt
  obtain ⟨⟨A, cap, hc, hr, hb⟩, hl, h8, hm, ht⟩ := h
  exact ⟨⟨A, cap, hc, hr.below k hp, hb.keep fun b hlt => k.block b (by omega)⟩, hl, h8, hm, ht.keep fun b hlt => k.block b (by omega)⟩
theorem AtN.drew {w : World} {p B : Nat} {s : Ms} {xs : List Int} (h : AtN w p B s xs) : AtN w.drew p B s xs := by
  obtain ⟨⟨A, cap, hc, hr, hb⟩, hl, h8, hm, ht⟩ := h
  exact ⟨⟨A, cap, hc, hr, hb⟩, hl, h8, hm, ht.keep fun _ _ => rfl⟩
theorem AtN.cell {w : World} {p B : Nat} {s : Ms} {xs : List Int} (h : AtN w p B s xs) (i : Nat) (V : Value) (hV : ∀ A n cap, (mC s A n cap)[i]? = some V) : w.cell? ⟨p, i, none⟩ = some V := by
  obtain ⟨A, cap, hc, hr, hb⟩ := h.row
  rw [hr.cell i]
  exact hV ..
theorem AtN.frozen {w : World} {p B : Nat} {s : Ms} {xs : List Int} (h : AtN w p B s xs) (i : Nat) : w.frozen? ⟨p, i, none⟩ = false := by
  obtain ⟨A, cap, hc, hr, hb⟩ := h.row
  exact hr.frozen i
theorem AtN.regs {w : World} {p B : Nat} {s : Ms} {xs : List Int} (h : AtN w p B s xs) : w.rangeAt p 0 (regsC s.r).toList := by
  obtain ⟨A, cap, hc, hr, hb⟩ := h.row
  intro j v hv
  rw [Nat.zero_add, hr.cell j]
  have hj : j < 20 := (List.getElem?_eq_some_iff.1 hv).1
  revert hv
  match j, hj with

  | 0, _ => exact id
  | 1, _ => exact id
  | 2, _ => exact id
  | 3, _ => exact id
  | 4, _ => exact id
  | 5, _ => exact id
  | 6, _ => exact id
  | 7, _ => exact id
  | 8, _ => exact id
  | 9, _ => exact id
  | 10, _ => exact id
  | 11, _ => exact id
  | 12, _ => exact id
  | 13, _ => exact id
  | 14, _ => exact id
  | 15, _ => exact id
  | 16, _ => exact id
  | 17, _ => exact id
  | 18, _ => exact id
  | 19, _ => exact id
  | n + 20, h => omega
theorem AtN.set {w : World} {p B : Nat} {s : Ms} {xs : List Int} (h : AtN w p B s xs) (i : Nat) (v : Value) (s' : Ms) (hs : ∀ A n cap, (mC s A n cap).setIfInBounds i v = mC s' A n cap) (hb : MsB s') : AtN (w.setCell ⟨p, i, none⟩ v) p B s' xs := by
  have hp := h.lt
  obtain ⟨⟨A, cap, hc, hr, hby⟩, hl, h8, hm, ht⟩ := h
  have k : ∀ b, b < B → (w.setCell ⟨p, i, none⟩ v).heap[b]? = w.heap[b]? := fun b hlt => Below.heap_setCell w _ v b (by show b ≠ p; omega)
  refine ⟨⟨A, cap, hc, ?_, hby.keep k⟩, hl, h8, hb, ht.keep k⟩
  have := hr.set i v
  rwa [hs] at this
theorem heap_setCells (b : Nat) (c : Nat) (hb : c ≠ b) : ∀ (vs : List Value) (o : Nat) (w : World), (w.setCells b o vs).heap[c]? = w.heap[c]?
  | [], _, _ => rfl
  | v :: r, o, w => (heap_setCells b c hb r (o + 1) _).trans (Below.heap_setCell w ⟨b, o, none⟩ v c hb)
structure NowN (w0 : World) (p B : Nat) (s : Ms) (xs : List Int) (w : World) : Prop where
  at_ : AtN w p B s xs
  bes : Besides p p w0 w
theorem NowN.begin {w : World} {p B : Nat} {s : Ms} {xs : List Int} (h : AtN w p B s xs) : NowN w p B s xs w := ⟨h, .refl ..⟩
theorem NowN.below {w0 w w' : World} {p B : Nat} {s : Ms} {xs : List Int} (h : NowN w0 p B s xs w) (k : Below w.heap.size w w') : NowN w0 p B s xs w' := ⟨h.at_.below k, h.bes.trans (.of_below k)⟩
theorem NowN.drew {w0 w : World} {p B : Nat} {s : Ms} {xs : List Int} (h : NowN w0 p B s xs w) : NowN w0 p B s xs w.drew := ⟨h.at_.drew, h.bes.drew⟩
theorem NowN.set {w0 w : World} {p B : Nat} {s : Ms} {xs : List Int} (h : NowN w0 p B s xs w) (i : Nat) (v : Value) (s' : Ms) (hs : ∀ A n cap, (mC s A n cap).setIfInBounds i v = mC s' A n cap) (hb : MsB s') : NowN w0 p B s' xs (w.setCell ⟨p, i, none⟩ v) :=
  ⟨h.at_.set i v s' hs hb, h.bes.setCell (.inl rfl) v⟩
def kB : IntKind → Int → Prop
  | .u8, v => B8 v
  | .u16, v => Wd16 v
  | _, _ => True
def OutI (w0 : World) (p B : Nat) (k : IntKind) : Except Cy ((Int × Ms) × List Int) → Ending → World → Prop
  | .ok ((v, s), ys), e, w' => e = .returned (.int k v) ∧ kB k v ∧ NowN w0 p B s ys w'
  | .error c, e, w' => e = .panicked [{ v := .iface 28 (cyV c), recovered := false }] ∧ Besides p p w0 w'
def OutV (w0 : World) (p B : Nat) : Except Cy (Ms × List Int) → Ending → World → Prop
  | .ok (s, ys), e, w' => e = .returned (.tuple #[]) ∧ NowN w0 p B s ys w'
  | .error c, e, w' => e = .panicked [{ v := .iface 28 (cyV c), recovered := false }] ∧ Besides p p w0 w'
theorem OutI.ok {w0 w : World} {p B : Nat} {k : IntKind} {X : Except Cy ((Int × Ms) × List Int)} {v : Int} {s : Ms} {ys : List Int} (h : X = .ok ((v, s), ys)) (hk : kB k v) (hn : NowN w0 p B s ys w) : OutI w0 p B k X (.returned (.int k v)) w := by
  subst h
  exact ⟨rfl, hk, hn⟩
theorem OutI.err {w0 w : World} {p B : Nat} {k : IntKind} {X : Except Cy ((Int × Ms) × List Int)} {c : Cy} (h : X = .error c) (hb : Besides p p w0 w) : OutI w0 p B k X (.panicked [{ v := .iface 28 (cyV c), recovered := false }]) w := by
  subst h
  exact ⟨rfl, hb⟩
theorem OutV.ok {w0 w : World} {p B : Nat} {X : Except Cy (Ms × List Int)} {s : Ms} {ys : List Int} (h : X = .ok (s, ys)) (hn : NowN w0 p B s ys w) : OutV w0 p B X (.returned (.tuple #[])) w := by
  subst h
  exact ⟨rfl, hn⟩
theorem OutV.err {w0 w : World} {p B : Nat} {X : Except Cy (Ms × List Int)} {c : Cy} (h : X = .error c) (hb : Besides p p w0 w) : OutV w0 p B X (.panicked [{ v := .iface 28 (cyV c), recovered := false }]) w := by
  subst h
  exact ⟨rfl, hb⟩
theorem NowN.after {w0 w w' : World} {p B : Nat} {s s' : Ms} {xs xs' : List Int} (h : NowN w0 p B s xs w) (k : NowN w p B s' xs' w') : NowN w0 p B s' xs' w' := ⟨k.at_, h.bes.trans k.bes⟩
section
variable {ops : Array Oper} {Q : Exit → Act → World → Prop} {a : Act} {w w0 : World} {o : Oper} {rest : List Oper} {p B : Nat} {s0 : Ms} {xs0 : List Int}
theorem sCallI {k : IntKind} {X : Except Cy ((Int × Ms) × List Int)} {g : FuncId} {args : Array Value} (hn : NowN w0 p B s0 xs0 w) (hg : o.guard = none) (he : (execOp a.eval o).run Tryz.prog w = .ok (.enter g args) w) (hc : Calls Tryz.prog g args w (OutI w p B k X))
    (hP : ∀ c w', X = .error c → Besides p p w0 w' → Q (.panic [{ v := .iface 28 (cyV c), recovered := false }]) a w')
    (hK : ∀ v s ys w', X = .ok ((v, s), ys) → kB k v → NowN w0 p B s ys w' → WL Tryz.prog ops Q rest (a.put o.dst (.int k v)) w') : WL Tryz.prog ops Q (o :: rest) a w :=
  list_call (wantedN hg) he hc fun e w' ho => by
    rcases X with c | ⟨⟨v, s⟩, ys⟩
    · obtain ⟨rfl, hb⟩ := ho
      exact hP c w' rfl (hn.bes.trans hb)
    · obtain ⟨rfl, hk, hN⟩ := ho
      exact hK v s ys w' rfl hk (hn.after hN)
theorem sCallV {X : Except Cy (Ms × List Int)} {g : FuncId} {args : Array Value} (hn : NowN w0 p B s0 xs0 w) (hg : o.guard = none) (he : (execOp a.eval o).run Tryz.prog w = .ok (.enter g args) w) (hc : Calls Tryz.prog g args w (OutV w p B X))
    (hP : ∀ c w', X = .error c → Besides p p w0 w' → Q (.panic [{ v := .iface 28 (cyV c), recovered := false }]) a w')
    (hK : ∀ s ys w', X = .ok (s, ys) → NowN w0 p B s ys w' → WL Tryz.prog ops Q rest (a.put o.dst (.tuple #[])) w') : WL Tryz.prog ops Q (o :: rest) a w :=
  list_call (wantedN hg) he hc fun e w' ho => by
    rcases X with c | ⟨s, ys⟩
    · obtain ⟨rfl, hb⟩ := ho
      exact hP c w' rfl (hn.bes.trans hb)
    · obtain ⟨rfl, hN⟩ := ho
      exact hK s ys w' rfl (hn.after hN)
end
def Ms.u_af (s : Ms) (v : Int) : Ms := { s with r := { s.r with af := v } }
theorem MsB.u_af {s : Ms} (h : MsB s) {v : Int} (hv : Wd16 v) : MsB (s.u_af v) := ⟨⟨hv, h.r.bc, h.r.de, h.r.hl, h.r.af2, h.r.bc2, h.r.de2, h.r.hl2, h.r.ix, h.r.iy, h.r.sp, h.r.pc, h.r.wz, h.r.i, h.r.r, h.r.mode⟩, h.plane, h.x, h.y, h.z, h.p, h.q, h.spot⟩
def Ms.u_bc (s : Ms) (v : Int) : Ms := { s with r := { s.r with bc := v } }
theorem MsB.u_bc {s : Ms} (h : MsB s) {v : Int} (hv : Wd16 v) : MsB (s.u_bc v) := ⟨⟨h.r.af, hv, h.r.de, h.r.hl, h.r.af2, h.r.bc2, h.r.de2, h.r.hl2, h.r.ix, h.r.iy, h.r.sp, h.r.pc, h.r.wz, h.r.i, h.r.r, h.r.mode⟩, h.plane, h.x, h.y, h.z, h.p, h.q, h.spot⟩
def Ms.u_de (s : Ms) (v : Int) : Ms := { s with r := { s.r with de := v } }
theorem mu_de (s : Ms) (v : Int) (A : Option Addr) (n cap : Nat) : (mC s A n cap).setIfInBounds 2 (.int .u16 v) = mC (s.u_de v) A n cap := rfl
theorem MsB.u_de {s : Ms} (h : MsB s) {v : Int} (hv : Wd16 v) : MsB (s.u_de v) := ⟨⟨h.r.af, h.r.bc, hv, h.r.hl, h.r.af2, h.r.bc2, h.r.de2, h.r.hl2, h.r.ix, h.r.iy, h.r.sp, h.r.pc, h.r.wz, h.r.i, h.r.r, h.r.mode⟩, h.plane, h.x, h.y, h.z, h.p, h.q, h.spot⟩
def Ms.u_hl (s : Ms) (v : Int) : Ms := { s with r := { s.r with hl := v } }
theorem mu_hl (s : Ms) (v : Int) (A : Option Addr) (n cap : Nat) : (mC s A n cap).setIfInBounds 3 (.int .u16 v) = mC (s.u_hl v) A n cap := rfl
theorem MsB.u_hl {s : Ms} (h : MsB s) {v : Int} (hv : Wd16 v) : MsB (s.u_hl v) := ⟨⟨h.r.af, h.r.bc, h.r.de, hv, h.r.af2, h.r.bc2, h.r.de2, h.r.hl2, h.r.ix, h.r.iy, h.r.sp, h.r.pc, h.r.wz, h.r.i, h.r.r, h.r.mode⟩, h.plane, h.x, h.y, h.z, h.p, h.q, h.spot⟩
def Ms.u_sp (s : Ms) (v : Int) : Ms := { s with r := { s.r with sp := v } }
theorem MsB.u_sp {s : Ms} (h : MsB s) {v : Int} (hv : Wd16 v) : MsB (s.u_sp v) := ⟨⟨h.r.af, h.r.bc, h.r.de, h.r.hl, h.r.af2, h.r.bc2, h.r.de2, h.r.hl2, h.r.ix, h.r.iy, hv, h.r.pc, h.r.wz, h.r.i, h.r.r, h.r.mode⟩, h.plane, h.x, h.y, h.z, h.p, h.q, h.spot⟩
def Ms.u_pc (s : Ms) (v : Int) : Ms := { s with r := { s.r with pc := v } }
theorem MsB.u_pc {s : Ms} (h : MsB s) {v : Int} (hv : Wd16 v) : MsB (s.u_pc v) := ⟨⟨h.r.af, h.r.bc, h.r.de, h.r.hl, h.r.af2, h.r.bc2, h.r.de2, h.r.hl2, h.r.ix, h.r.iy, h.r.sp, hv, h.r.wz, h.r.i, h.r.r, h.r.mode⟩, h.plane, h.x, h.y, h.z, h.p, h.q, h.spot⟩
def Ms.u_wz (s : Ms) (v : Int) : Ms := { s with r := { s.r with wz := v } }
theorem mu_wz (s : Ms) (v : Int) (A : Option Addr) (n cap : Nat) : (mC s A n cap).setIfInBounds 12 (.int .u16 v) = mC (s.u_wz v) A n cap := rfl
theorem MsB.u_wz {s : Ms} (h : MsB s) {v : Int} (hv : Wd16 v) : MsB (s.u_wz v) := ⟨⟨h.r.af, h.r.bc, h.r.de, h.r.hl, h.r.af2, h.r.bc2, h.r.de2, h.r.hl2, h.r.ix, h.r.iy, h.r.sp, h.r.pc, hv, h.r.i, h.r.r, h.r.mode⟩, h.plane, h.x, h.y, h.z, h.p, h.q, h.spot⟩
def Ms.u_i (s : Ms) (v : Int) : Ms := { s with r := { s.r with i := v } }
theorem MsB.u_i {s : Ms} (h : MsB s) {v : Int} (hv : B8 v) : MsB (s.u_i v) := ⟨⟨h.r.af, h.r.bc, h.r.de, h.r.hl, h.r.af2, h.r.bc2, h.r.de2, h.r.hl2, h.r.ix, h.r.iy, h.r.sp, h.r.pc, h.r.wz, hv, h.r.r, h.r.mode⟩, h.plane, h.x, h.y, h.z, h.p, h.q, h.spot⟩
def Ms.u_r (s : Ms) (v : Int) : Ms := { s with r := { s.r with r := v } }
theorem MsB.u_r {s : Ms} (h : MsB s) {v : Int} (hv : B8 v) : MsB (s.u_r v) := ⟨⟨h.r.af, h.r.bc, h.r.de, h.r.hl, h.r.af2, h.r.bc2, h.r.de2, h.r.hl2, h.r.ix, h.r.iy, h.r.sp, h.r.pc, h.r.wz, h.r.i, hv, h.r.mode⟩, h.plane, h.x, h.y, h.z, h.p, h.q, h.spot⟩
def Ms.u_iff1 (s : Ms) (v : Bool) : Ms := { s with r := { s.r with iff1 := v } }
theorem MsB.u_iff1 {s : Ms} (h : MsB s) {v : Bool} : MsB (s.u_iff1 v) := ⟨⟨h.r.af, h.r.bc, h.r.de, h.r.hl, h.r.af2, h.r.bc2, h.r.de2, h.r.hl2, h.r.ix, h.r.iy, h.r.sp, h.r.pc, h.r.wz, h.r.i, h.r.r, h.r.mode⟩, h.plane, h.x, h.y, h.z, h.p, h.q, h.spot⟩
def Ms.u_iff2 (s : Ms) (v : Bool) : Ms := { s with r := { s.r with iff2 := v } }
theorem MsB.u_iff2 {s : Ms} (h : MsB s) {v : Bool} : MsB (s.u_iff2 v) := ⟨⟨h.r.af, h.r.bc, h.r.de, h.r.hl, h.r.af2, h.r.bc2, h.r.de2, h.r.hl2, h.r.ix, h.r.iy, h.r.sp, h.r.pc, h.r.wz, h.r.i, h.r.r, h.r.mode⟩, h.plane, h.x, h.y, h.z, h.p, h.q, h.spot⟩
def Ms.u_halted (s : Ms) (v : Bool) : Ms := { s with r := { s.r with halted := v } }
theorem MsB.u_halted {s : Ms} (h : MsB s) {v : Bool} : MsB (s.u_halted v) := ⟨⟨h.r.af, h.r.bc, h.r.de, h.r.hl, h.r.af2, h.r.bc2, h.r.de2, h.r.hl2, h.r.ix, h.r.iy, h.r.sp, h.r.pc, h.r.wz, h.r.i, h.r.r, h.r.mode⟩, h.plane, h.x, h.y, h.z, h.p, h.q, h.spot⟩
def Ms.u_late (s : Ms) (v : Bool) : Ms := { s with r := { s.r with late := v } }
theorem mu_late (s : Ms) (v : Bool) (A : Option Addr) (n cap : Nat) : (mC s A n cap).setIfInBounds 18 (.bool v) = mC (s.u_late v) A n cap := rfl
theorem MsB.u_late {s : Ms} (h : MsB s) {v : Bool} : MsB (s.u_late v) := ⟨⟨h.r.af, h.r.bc, h.r.de, h.r.hl, h.r.af2, h.r.bc2, h.r.de2, h.r.hl2, h.r.ix, h.r.iy, h.r.sp, h.r.pc, h.r.wz, h.r.i, h.r.r, h.r.mode⟩, h.plane, h.x, h.y, h.z, h.p, h.q, h.spot⟩
def Ms.u_mode (s : Ms) (v : Int) : Ms := { s with r := { s.r with mode := v } }
theorem mu_mode (s : Ms) (v : Int) (A : Option Addr) (n cap : Nat) : (mC s A n cap).setIfInBounds 19 (.int .i64 v) = mC (s.u_mode v) A n cap := rfl
theorem MsB.u_mode {s : Ms} (h : MsB s) {v : Int} (hv : -9223372036854775808 ≤ v ∧ v ≤ 9223372036854775807) : MsB (s.u_mode v) := ⟨⟨h.r.af, h.r.bc, h.r.de, h.r.hl, h.r.af2, h.r.bc2, h.r.de2, h.r.hl2, h.r.ix, h.r.iy, h.r.sp, h.r.pc, h.r.wz, h.r.i, h.r.r, hv⟩, h.plane, h.x, h.y, h.z, h.p, h.q, h.spot⟩
def Ms.u_rg (s : Ms) (g : Rg) : Ms := { s with r := g }
theorem MsB.u_rg {s : Ms} (h : MsB s) {g : Rg} (hg : RgB g) : MsB (s.u_rg g) := ⟨hg, h.plane, h.x, h.y, h.z, h.p, h.q, h.spot⟩
def Ms.u_plane (s : Ms) (v : Int) : Ms := { s with plane := v }
theorem mu_plane (s : Ms) (v : Int) (A : Option Addr) (n cap : Nat) : (mC s A n cap).setIfInBounds 21 (.int .i64 v) = mC (s.u_plane v) A n cap := rfl
theorem MsB.u_plane {s : Ms} (h : MsB s) {v : Int} (hv : v = 0 ∨ v = 3 ∨ v = 4) : MsB (s.u_plane v) := ⟨h.r, hv, h.x, h.y, h.z, h.p, h.q, h.spot⟩
def Ms.u_x (s : Ms) (v : Int) : Ms := { s with x := v }
theorem MsB.u_x {s : Ms} (h : MsB s) {v : Int} (hv : 0 ≤ v ∧ v ≤ 3) : MsB (s.u_x v) := ⟨h.r, h.plane, hv, h.y, h.z, h.p, h.q, h.spot⟩
def Ms.u_y (s : Ms) (v : Int) : Ms := { s with y := v }
theorem MsB.u_y {s : Ms} (h : MsB s) {v : Int} (hv : 0 ≤ v ∧ v ≤ 7) : MsB (s.u_y v) := ⟨h.r, h.plane, h.x, hv, h.z, h.p, h.q, h.spot⟩
def Ms.u_z (s : Ms) (v : Int) : Ms := { s with z := v }
theorem MsB.u_z {s : Ms} (h : MsB s) {v : Int} (hv : 0 ≤ v ∧ v ≤ 7) : MsB (s.u_z v) := ⟨h.r, h.plane, h.x, h.y, hv, h.p, h.q, h.spot⟩
def Ms.u_p (s : Ms) (v : Int) : Ms := { s with p := v }
theorem MsB.u_p {s : Ms} (h : MsB s) {v : Int} (hv : 0 ≤ v ∧ v ≤ 3) : MsB (s.u_p v) := ⟨h.r, h.plane, h.x, h.y, h.z, hv, h.q, h.spot⟩
def Ms.u_q (s : Ms) (v : Int) : Ms := { s with q := v }
theorem MsB.u_q {s : Ms} (h : MsB s) {v : Int} (hv : 0 ≤ v ∧ v ≤ 1) : MsB (s.u_q v) := ⟨h.r, h.plane, h.x, h.y, h.z, h.p, hv, h.spot⟩
def Ms.u_spot (s : Ms) (v : Int) : Ms := { s with spot := v }
theorem mu_spot (s : Ms) (v : Int) (A : Option Addr) (n cap : Nat) : (mC s A n cap).setIfInBounds 27 (.int .u16 v) = mC (s.u_spot v) A n cap := rfl
theorem MsB.u_spot {s : Ms} (h : MsB s) {v : Int} (hv : Wd16 v) : MsB (s.u_spot v) := ⟨h.r, h.plane, h.x, h.y, h.z, h.p, h.q, hv⟩
def Ms.u_near (s : Ms) (v : Bool) : Ms := { s with near := v }
theorem MsB.u_near {s : Ms} (h : MsB s) {v : Bool} : MsB (s.u_near v) := ⟨h.r, h.plane, h.x, h.y, h.z, h.p, h.q, h.spot⟩
theorem fR0 (b : Nat) (w : World) : (Instr.fieldAt 24 (.pointer (some ⟨b, 0, none⟩)) 0).run Tryz.prog w = .ok (.pointer (some ⟨b, 0, none⟩)) w := by simp [go_sem]
theorem fR3 (b : Nat) (w : World) : (Instr.fieldAt 24 (.pointer (some ⟨b, 0, none⟩)) 3).run Tryz.prog w = .ok (.pointer (some ⟨b, 3, none⟩)) w := by simp [go_sem]
theorem fR11 (b : Nat) (w : World) : (Instr.fieldAt 24 (.pointer (some ⟨b, 0, none⟩)) 11).run Tryz.prog w = .ok (.pointer (some ⟨b, 11, none⟩)) w := by simp [go_sem]
theorem fR12 (b : Nat) (w : World) : (Instr.fieldAt 24 (.pointer (some ⟨b, 0, none⟩)) 12).run Tryz.prog w = .ok (.pointer (some ⟨b, 12, none⟩)) w := by simp [go_sem]
theorem fR13 (b : Nat) (w : World) : (Instr.fieldAt 24 (.pointer (some ⟨b, 0, none⟩)) 13).run Tryz.prog w = .ok (.pointer (some ⟨b, 13, none⟩)) w := by simp [go_sem]
theorem fR14 (b : Nat) (w : World) : (Instr.fieldAt 24 (.pointer (some ⟨b, 0, none⟩)) 14).run Tryz.prog w = .ok (.pointer (some ⟨b, 14, none⟩)) w := by simp [go_sem]
theorem fR16 (b : Nat) (w : World) : (Instr.fieldAt 24 (.pointer (some ⟨b, 0, none⟩)) 16).run Tryz.prog w = .ok (.pointer (some ⟨b, 16, none⟩)) w := by simp [go_sem]
theorem fR17 (b : Nat) (w : World) : (Instr.fieldAt 24 (.pointer (some ⟨b, 0, none⟩)) 17).run Tryz.prog w = .ok (.pointer (some ⟨b, 17, none⟩)) w := by simp [go_sem]
theorem fR18 (b : Nat) (w : World) : (Instr.fieldAt 24 (.pointer (some ⟨b, 0, none⟩)) 18).run Tryz.prog w = .ok (.pointer (some ⟨b, 18, none⟩)) w := by simp [go_sem]
theorem fR19 (b : Nat) (w : World) : (Instr.fieldAt 24 (.pointer (some ⟨b, 0, none⟩)) 19).run Tryz.prog w = .ok (.pointer (some ⟨b, 19, none⟩)) w := by simp [go_sem]
theorem fM0 (b : Nat) (w : World) : (Instr.fieldAt 46 (.pointer (some ⟨b, 0, none⟩)) 0).run Tryz.prog w = .ok (.pointer (some ⟨b, 0, none⟩)) w := by simp [go_sem]
theorem fM1 (b : Nat) (w : World) : (Instr.fieldAt 46 (.pointer (some ⟨b, 0, none⟩)) 1).run Tryz.prog w = .ok (.pointer (some ⟨b, 20, none⟩)) w := by simp [go_sem]
theorem fM2 (b : Nat) (w : World) : (Instr.fieldAt 46 (.pointer (some ⟨b, 0, none⟩)) 2).run Tryz.prog w = .ok (.pointer (some ⟨b, 21, none⟩)) w := by simp [go_sem]
theorem fM3 (b : Nat) (w : World) : (Instr.fieldAt 46 (.pointer (some ⟨b, 0, none⟩)) 3).run Tryz.prog w = .ok (.pointer (some ⟨b, 22, none⟩)) w := by simp [go_sem]
theorem fM4 (b : Nat) (w : World) : (Instr.fieldAt 46 (.pointer (some ⟨b, 0, none⟩)) 4).run Tryz.prog w = .ok (.pointer (some ⟨b, 23, none⟩)) w := by simp [go_sem]
theorem fM5 (b : Nat) (w : World) : (Instr.fieldAt 46 (.pointer (some ⟨b, 0, none⟩)) 5).run Tryz.prog w = .ok (.pointer (some ⟨b, 24, none⟩)) w := by simp [go_sem]
theorem fM7 (b : Nat) (w : World) : (Instr.fieldAt 46 (.pointer (some ⟨b, 0, none⟩)) 7).run Tryz.prog w = .ok (.pointer (some ⟨b, 26, none⟩)) w := by simp [go_sem]
theorem fM8 (b : Nat) (w : World) : (Instr.fieldAt 46 (.pointer (some ⟨b, 0, none⟩)) 8).run Tryz.prog w = .ok (.pointer (some ⟨b, 27, none⟩)) w := by simp [go_sem]
section
theorem fbc_any (b : Nat) (w : World) : Calls Tryz.prog 297 #[.pointer (some ⟨b, 0, none⟩)] w fun e w' => e = .returned (.pointer (some ⟨b, 1, none⟩)) ∧ w = w' := by
  go_enter Tryz.func297, Tryz.ntmps297
  go_wp2
  go_ret
  exact ⟨rfl, rfl⟩
theorem fde_any (b : Nat) (w : World) : Calls Tryz.prog 298 #[.pointer (some ⟨b, 0, none⟩)] w fun e w' => e = .returned (.pointer (some ⟨b, 2, none⟩)) ∧ w = w' := by
  go_enter Tryz.func298, Tryz.ntmps298
  go_wp2
  go_ret
  exact ⟨rfl, rfl⟩
theorem fhl_any (b : Nat) (w : World) : Calls Tryz.prog 308 #[.pointer (some ⟨b, 0, none⟩)] w fun e w' => e = .returned (.pointer (some ⟨b, 3, none⟩)) ∧ w = w' := by
  go_enter Tryz.func308, Tryz.ntmps308
  go_wp2
  go_ret
  exact ⟨rfl, rfl⟩
theorem fix_any (b : Nat) (w : World) : Calls Tryz.prog 306 #[.pointer (some ⟨b, 0, none⟩)] w fun e w' => e = .returned (.pointer (some ⟨b, 8, none⟩)) ∧ w = w' := by
  go_enter Tryz.func306, Tryz.ntmps306
  go_wp2
  go_ret
  exact ⟨rfl, rfl⟩
theorem fiy_any (b : Nat) (w : World) : Calls Tryz.prog 307 #[.pointer (some ⟨b, 0, none⟩)] w fun e w' => e = .returned (.pointer (some ⟨b, 9, none⟩)) ∧ w = w' := by
  go_enter Tryz.func307, Tryz.ntmps307
  go_wp2
  go_ret
  exact ⟨rfl, rfl⟩
theorem fsp_any (b : Nat) (w : World) : Calls Tryz.prog 300 #[.pointer (some ⟨b, 0, none⟩)] w fun e w' => e = .returned (.pointer (some ⟨b, 10, none⟩)) ∧ w = w' := by
  go_enter Tryz.func300, Tryz.ntmps300
  go_wp2
  go_ret
  exact ⟨rfl, rfl⟩
theorem faf_any (b : Nat) (w : World) : Calls Tryz.prog 301 #[.pointer (some ⟨b, 0, none⟩)] w fun e w' => e = .returned (.pointer (some ⟨b, 0, none⟩)) ∧ w = w' := by
  go_enter Tryz.func301, Tryz.ntmps301
  go_wp2
  go_ret
  exact ⟨rfl, rfl⟩
abbrev vBC : Value := .func (.func 297) #[] #[]
abbrev vDE : Value := .func (.func 298) #[] #[]
abbrev vSP : Value := .func (.func 300) #[] #[]
abbrev vAF : Value := .func (.func 301) #[] #[]
def thirdF (plane : Int) : FuncId := if plane = 3 then 306 else if plane = 4 then 307 else 308
abbrev thirdV (plane : Int) : Value := .func (.func (thirdF plane)) #[] #[]
theorem third_any (p : Int) (w : World) : Calls Tryz.prog 299 #[.int .i64 p] w fun e w' => e = .returned (thirdV p) ∧ w = w' := by
  unfold thirdV thirdF
  by_cases h3 : p = 3
  · subst h3
    go_enter Tryz.func299, Tryz.ntmps299
    go_wp2
    go_ret
    exact ⟨rfl, rfl⟩
  by_cases h4 : p = 4
  · subst h4
    go_enter Tryz.func299, Tryz.ntmps299
    go_wp2
    go_ret
    exact ⟨rfl, rfl⟩
  rw [if_neg h3, if_neg h4]
  have e3 : (p == 3) = false := by simpa using h3
  have e4 : (p == 4) = false := by simpa using h4
  go_enter Tryz.func299, Tryz.ntmps299
  go_wp2
  go_ret
  exact ⟨rfl, rfl⟩
theorem inp_0 (v0 : Value) (W : World) (b : Nat) (hb : b = W.heap.size) :
    (Instr.mapUpdate 151 (.map (some b)) (.int .i64 0) v0).run Tryz.prog (W.alloc (.map #[] 0)) = .ok () (W.alloc (.map #[⟨.int .i64 0, v0, 0⟩] 1)) :=
  run_insert_top W _ _ _ Tryz.underlying151 Tryz.underlying3 _ _ _ _ b hb rfl
theorem inp_1 (v0 v1 : Value) (W : World) (b : Nat) (hb : b = W.heap.size) :
    (Instr.mapUpdate 151 (.map (some b)) (.int .i64 1) v1).run Tryz.prog (W.alloc (.map #[⟨.int .i64 0, v0, 0⟩] 1)) = .ok () (W.alloc (.map #[⟨.int .i64 0, v0, 0⟩, ⟨.int .i64 1, v1, 1⟩] 2)) :=
  run_insert_top W _ _ _ Tryz.underlying151 Tryz.underlying3 _ _ _ _ b hb rfl
theorem inp_2 (v0 v1 v2 : Value) (W : World) (b : Nat) (hb : b = W.heap.size) :
    (Instr.mapUpdate 151 (.map (some b)) (.int .i64 2) v2).run Tryz.prog (W.alloc (.map #[⟨.int .i64 0, v0, 0⟩, ⟨.int .i64 1, v1, 1⟩] 2)) = .ok () (W.alloc (.map #[⟨.int .i64 0, v0, 0⟩, ⟨.int .i64 1, v1, 1⟩, ⟨.int .i64 2, v2, 2⟩] 3)) :=
  run_insert_top W _ _ _ Tryz.underlying151 Tryz.underlying3 _ _ _ _ b hb rfl
theorem inp_3 (v0 v1 v2 v3 : Value) (W : World) (b : Nat) (hb : b = W.heap.size) :
    (Instr.mapUpdate 151 (.map (some b)) (.int .i64 3) v3).run Tryz.prog (W.alloc (.map #[⟨.int .i64 0, v0, 0⟩, ⟨.int .i64 1, v1, 1⟩, ⟨.int .i64 2, v2, 2⟩] 3)) = .ok () (W.alloc (.map #[⟨.int .i64 0, v0, 0⟩, ⟨.int .i64 1, v1, 1⟩, ⟨.int .i64 2, v2, 2⟩, ⟨.int .i64 3, v3, 3⟩] 4)) :=
  run_insert_top W _ _ _ Tryz.underlying151 Tryz.underlying3 _ _ _ _ b hb rfl
attribute [local go_sem] inp_0 inp_1 inp_2 inp_3
def pairEnts (p : Int) : Array MapEntry := #[⟨.int .i64 0, vBC, 0⟩, ⟨.int .i64 1, vDE, 1⟩, ⟨.int .i64 2, thirdV p, 2⟩, ⟨.int .i64 3, vSP, 3⟩]
theorem pairs_any (p : Int) (w : World) : Calls Tryz.prog 277 #[.int .i64 p] w fun e w' => e = .returned (.map (some w.heap.size)) ∧ w' = w.alloc (.map (pairEnts p) 4) := by
  have hmm := @run_makeMap Tryz.prog
  have ht := Lib.hid (fun w => third_any p w)
  go_enter Tryz.func277, Tryz.ntmps277
  go_wp2_with (first
    | (go_at_call 299; refine (ht.out _).mono ?_; rintro e w' ⟨rfl, rfl⟩))
  go_ret
  exact ⟨rfl, rfl⟩
theorem inh_0 (v0 : Value) (W : World) (b : Nat) (hb : b = W.heap.size) :
    (Instr.mapUpdate 161 (.map (some b)) (.int .i64 0) v0).run Tryz.prog (W.alloc (.map #[] 0)) = .ok () (W.alloc (.map #[⟨.int .i64 0, v0, 0⟩] 1)) :=
  run_insert_top W _ _ _ Tryz.underlying161 Tryz.underlying3 _ _ _ _ b hb rfl
theorem inh_1 (v0 v1 : Value) (W : World) (b : Nat) (hb : b = W.heap.size) :
    (Instr.mapUpdate 161 (.map (some b)) (.int .i64 1) v1).run Tryz.prog (W.alloc (.map #[⟨.int .i64 0, v0, 0⟩] 1)) = .ok () (W.alloc (.map #[⟨.int .i64 0, v0, 0⟩, ⟨.int .i64 1, v1, 1⟩] 2)) :=
  run_insert_top W _ _ _ Tryz.underlying161 Tryz.underlying3 _ _ _ _ b hb rfl
theorem inh_2 (v0 v1 v2 : Value) (W : World) (b : Nat) (hb : b = W.heap.size) :
    (Instr.mapUpdate 161 (.map (some b)) (.int .i64 2) v2).run Tryz.prog (W.alloc (.map #[⟨.int .i64 0, v0, 0⟩, ⟨.int .i64 1, v1, 1⟩] 2)) = .ok () (W.alloc (.map #[⟨.int .i64 0, v0, 0⟩, ⟨.int .i64 1, v1, 1⟩, ⟨.int .i64 2, v2, 2⟩] 3)) :=
  run_insert_top W _ _ _ Tryz.underlying161 Tryz.underlying3 _ _ _ _ b hb rfl
theorem inh_3 (v0 v1 v2 v3 : Value) (W : World) (b : Nat) (hb : b = W.heap.size) :
    (Instr.mapUpdate 161 (.map (some b)) (.int .i64 3) v3).run Tryz.prog (W.alloc (.map #[⟨.int .i64 0, v0, 0⟩, ⟨.int .i64 1, v1, 1⟩, ⟨.int .i64 2, v2, 2⟩] 3)) = .ok () (W.alloc (.map #[⟨.int .i64 0, v0, 0⟩, ⟨.int .i64 1, v1, 1⟩, ⟨.int .i64 2, v2, 2⟩, ⟨.int .i64 3, v3, 3⟩] 4)) :=
  run_insert_top W _ _ _ Tryz.underlying161 Tryz.underlying3 _ _ _ _ b hb rfl
theorem inh_4 (v0 v1 v2 v3 v4 : Value) (W : World) (b : Nat) (hb : b = W.heap.size) :
    (Instr.mapUpdate 161 (.map (some b)) (.int .i64 4) v4).run Tryz.prog (W.alloc (.map #[⟨.int .i64 0, v0, 0⟩, ⟨.int .i64 1, v1, 1⟩, ⟨.int .i64 2, v2, 2⟩, ⟨.int .i64 3, v3, 3⟩] 4)) = .ok () (W.alloc (.map #[⟨.int .i64 0, v0, 0⟩, ⟨.int .i64 1, v1, 1⟩, ⟨.int .i64 2, v2, 2⟩, ⟨.int .i64 3, v3, 3⟩, ⟨.int .i64 4, v4, 4⟩] 5)) :=
  run_insert_top W _ _ _ Tryz.underlying161 Tryz.underlying3 _ _ _ _ b hb rfl
theorem inh_5 (v0 v1 v2 v3 v4 v5 : Value) (W : World) (b : Nat) (hb : b = W.heap.size) :
    (Instr.mapUpdate 161 (.map (some b)) (.int .i64 5) v5).run Tryz.prog (W.alloc (.map #[⟨.int .i64 0, v0, 0⟩, ⟨.int .i64 1, v1, 1⟩, ⟨.int .i64 2, v2, 2⟩, ⟨.int .i64 3, v3, 3⟩, ⟨.int .i64 4, v4, 4⟩] 5)) = .ok () (W.alloc (.map #[⟨.int .i64 0, v0, 0⟩, ⟨.int .i64 1, v1, 1⟩, ⟨.int .i64 2, v2, 2⟩, ⟨.int .i64 3, v3, 3⟩, ⟨.int .i64 4, v4, 4⟩, ⟨.int .i64 5, v5, 5⟩] 6)) :=
  run_insert_top W _ _ _ Tryz.underlying161 Tryz.underlying3 _ _ _ _ b hb rfl
theorem inh_6 (v0 v1 v2 v3 v4 v5 v6 : Value) (W : World) (b : Nat) (hb : b = W.heap.size) :
    (Instr.mapUpdate 161 (.map (some b)) (.int .i64 7) v6).run Tryz.prog (W.alloc (.map #[⟨.int .i64 0, v0, 0⟩, ⟨.int .i64 1, v1, 1⟩, ⟨.int .i64 2, v2, 2⟩, ⟨.int .i64 3, v3, 3⟩, ⟨.int .i64 4, v4, 4⟩, ⟨.int .i64 5, v5, 5⟩] 6)) = .ok () (W.alloc (.map #[⟨.int .i64 0, v0, 0⟩, ⟨.int .i64 1, v1, 1⟩, ⟨.int .i64 2, v2, 2⟩, ⟨.int .i64 3, v3, 3⟩, ⟨.int .i64 4, v4, 4⟩, ⟨.int .i64 5, v5, 5⟩, ⟨.int .i64 7, v6, 6⟩] 7)) :=
  run_insert_top W _ _ _ Tryz.underlying161 Tryz.underlying3 _ _ _ _ b hb rfl
attribute [local go_sem] inh_0 inh_1 inh_2 inh_3 inh_4 inh_5 inh_6
abbrev halfV (v : Value) (high : Bool) : Value := .agg #[v, .bool high]
def halfEnts (p : Int) : Array MapEntry := #[⟨.int .i64 0, halfV vBC true, 0⟩, ⟨.int .i64 1, halfV vBC false, 1⟩, ⟨.int .i64 2, halfV vDE true, 2⟩, ⟨.int .i64 3, halfV vDE false, 3⟩, ⟨.int .i64 4, halfV (thirdV p) true, 4⟩, ⟨.int .i64 5, halfV (thirdV p) false, 5⟩, ⟨.int .i64 7, halfV vAF true, 6⟩]
theorem halves_any (p : Int) (w : World) : Calls Tryz.prog 282 #[.int .i64 p] w fun e w' => e = .returned (.map (some w.heap.size)) ∧ w' = w.alloc (.map (halfEnts p) 7) := by
  have hmm := @run_makeMap Tryz.prog
  have ht := Lib.hid (fun w => third_any p w)
  go_enter Tryz.func282, Tryz.ntmps282
  go_wp2_with (first
    | (go_at_call 299; refine (ht.out _).mono ?_; rintro e w' ⟨rfl, rfl⟩))
  go_ret
  exact ⟨rfl, rfl⟩
theorem lkp_0 {w : World} {M : Nat} {p : Int} (h : w.heap[M]? = some (.map (pairEnts p) 4)) : (Instr.lookup 151 (.map (some M)) (.int .i64 0) true).run Tryz.prog w = .ok (.tuple #[vBC, .bool true]) w :=
  run_look Tryz.underlying151 Tryz.underlying3 h rfl
theorem lkp_1 {w : World} {M : Nat} {p : Int} (h : w.heap[M]? = some (.map (pairEnts p) 4)) : (Instr.lookup 151 (.map (some M)) (.int .i64 1) true).run Tryz.prog w = .ok (.tuple #[vDE, .bool true]) w :=
  run_look Tryz.underlying151 Tryz.underlying3 h rfl
theorem lkp_2 {w : World} {M : Nat} {p : Int} {F : FuncId} (hF : thirdF p = F) (h : w.heap[M]? = some (.map (pairEnts p) 4)) : (Instr.lookup 151 (.map (some M)) (.int .i64 2) true).run Tryz.prog w = .ok (.tuple #[.func (.func F) #[] #[], .bool true]) w :=
  hF ▸ run_look Tryz.underlying151 Tryz.underlying3 h rfl
theorem lkp_3 {w : World} {M : Nat} {p : Int} (h : w.heap[M]? = some (.map (pairEnts p) 4)) : (Instr.lookup 151 (.map (some M)) (.int .i64 3) true).run Tryz.prog w = .ok (.tuple #[vSP, .bool true]) w :=
  run_look Tryz.underlying151 Tryz.underlying3 h rfl
theorem lkp_no {w : World} {M : Nat} {p k : Int} (hk : k < 0 ∨ 3 < k) (h : w.heap[M]? = some (.map (pairEnts p) 4)) : (Instr.lookup 151 (.map (some M)) (.int .i64 k) true).run Tryz.prog w = .ok (.tuple #[.nilFunc, .bool false]) w :=
  run_look_no Tryz.underlying151 Tryz.underlying3 h (by
    have n0 : (k == 0) = false := by simp; omega
    have n1 : (k == 1) = false := by simp; omega
    have n2 : (k == 2) = false := by simp; omega
    have n3 : (k == 3) = false := by simp; omega
    simp only [pairEnts, Instr.findNow, Instr.sameNow, if_true, n0, n1, n2, n3]) (by kernel_rfl)
theorem lkh_0 {w : World} {M : Nat} {p : Int} (h : w.heap[M]? = some (.map (halfEnts p) 7)) : (Instr.lookup 161 (.map (some M)) (.int .i64 0) true).run Tryz.prog w = .ok (.tuple #[halfV vBC true, .bool true]) w :=
  run_look Tryz.underlying161 Tryz.underlying3 h rfl
theorem lkh_1 {w : World} {M : Nat} {p : Int} (h : w.heap[M]? = some (.map (halfEnts p) 7)) : (Instr.lookup 161 (.map (some M)) (.int .i64 1) true).run Tryz.prog w = .ok (.tuple #[halfV vBC false, .bool true]) w :=
  run_look Tryz.underlying161 Tryz.underlying3 h rfl
theorem lkh_2 {w : World} {M : Nat} {p : Int} (h : w.heap[M]? = some (.map (halfEnts p) 7)) : (Instr.lookup 161 (.map (some M)) (.int .i64 2) true).run Tryz.prog w = .ok (.tuple #[halfV vDE true, .bool true]) w :=
  run_look Tryz.underlying161 Tryz.underlying3 h rfl
theorem lkh_3 {w : World} {M : Nat} {p : Int} (h : w.heap[M]? = some (.map (halfEnts p) 7)) : (Instr.lookup 161 (.map (some M)) (.int .i64 3) true).run Tryz.prog w = .ok (.tuple #[halfV vDE false, .bool true]) w :=
  run_look Tryz.underlying161 Tryz.underlying3 h rfl
theorem lkh_4 {w : World} {M : Nat} {p : Int} {F : FuncId} (hF : thirdF p = F) (h : w.heap[M]? = some (.map (halfEnts p) 7)) : (Instr.lookup 161 (.map (some M)) (.int .i64 4) true).run Tryz.prog w = .ok (.tuple #[halfV (.func (.func F) #[] #[]) true, .bool true]) w :=
  hF ▸ run_look Tryz.underlying161 Tryz.underlying3 h rfl
theorem lkh_5 {w : World} {M : Nat} {p : Int} {F : FuncId} (hF : thirdF p = F) (h : w.heap[M]? = some (.map (halfEnts p) 7)) : (Instr.lookup 161 (.map (some M)) (.int .i64 5) true).run Tryz.prog w = .ok (.tuple #[halfV (.func (.func F) #[] #[]) false, .bool true]) w :=
  hF ▸ run_look Tryz.underlying161 Tryz.underlying3 h rfl
theorem lkh_7 {w : World} {M : Nat} {p : Int} (h : w.heap[M]? = some (.map (halfEnts p) 7)) : (Instr.lookup 161 (.map (some M)) (.int .i64 7) true).run Tryz.prog w = .ok (.tuple #[halfV vAF true, .bool true]) w :=
  run_look Tryz.underlying161 Tryz.underlying3 h rfl
theorem lkh_no {w : World} {M : Nat} {p k : Int} (hk : k < 0 ∨ k = 6 ∨ 7 < k) (h : w.heap[M]? = some (.map (halfEnts p) 7)) : (Instr.lookup 161 (.map (some M)) (.int .i64 k) true).run Tryz.prog w = .ok (.tuple #[halfV .nilFunc false, .bool false]) w :=
  run_look_no Tryz.underlying161 Tryz.underlying3 h (by
    have n0 : (k == 0) = false := by simp; omega
    have n1 : (k == 1) = false := by simp; omega
    have n2 : (k == 2) = false := by simp; omega
    have n3 : (k == 3) = false := by simp; omega
    have n4 : (k == 4) = false := by simp; omega
    have n5 : (k == 5) = false := by simp; omega
    have n7 : (k == 7) = false := by simp; omega
    simp only [halfEnts, Instr.findNow, Instr.sameNow, if_true, n0, n1, n2, n3, n4, n5, n7]) (by kernel_rfl)
end
theorem info24 : (Tryz.prog.info? 24).map (·.size) = some 20 := by kernel_rfl
theorem info42 : (Tryz.prog.info? 153).map (·.size) = some 20 := by kernel_rfl
theorem get_hi (p : Int) (k : Int) (F o : Nat) (hlk : ∀ {w : World} {M : Nat}, w.heap[M]? = some (.map (halfEnts p) 7) → (Instr.lookup 161 (.map (some M)) (.int .i64 k) true).run Tryz.prog w = .ok (.tuple #[halfV (.func (.func F) #[] #[]) true, .bool true]) w) (hF : ∀ (b : Nat) (w : World), Calls Tryz.prog F #[.pointer (some ⟨b, 0, none⟩)] w fun e w' => e = .returned (.pointer (some ⟨b, o, none⟩)) ∧ w = w') (hcall : ∀ (args : Array Value) (w : World), (callFunc F args).run Tryz.prog w = .ok (.enter F args) w) (cs : Array Value) (hs : cs.size = 20) (ho : cs.toList.all (·.oneCell') = true) (x : Int) (hx : Wd16 x) (hc : cs[o]? = some (.int .u16 x)) (w : World) :
    Calls Tryz.prog 235 #[.agg cs, .int .i64 p, .int .i64 k] w fun e w' => e = .returned (.int .u8 (x / 256)) ∧ Below w.heap.size w w' := by
  have kh := Lib.hid (fun w => halves_any p w)
  have kb := Lib.hid (hi_any x hx.1 hx.2)
  have hl := hlk (World.alloc_heap_new (w.alloc (.cells cs 24)) (.map (halfEnts p) 7))
  have r0 := (Row.new w 24 cs).alloc (.map (halfEnts p) 7)
  have HB0 : Below w.heap.size w ((w.alloc (.cells cs 24)).alloc (.map (halfEnts p) 7)) := (by repeat (first | exact Below.refl _ _ | assumption | refine bstep ?_ (by assumption) | refine Below.drew ?_ | refine Below.alloc ?_ (by first | (simp; done) | (simp; omega) | omega) _ | refine Below.setCell ?_ (by first | (simp; done) | (simp; omega) | omega) _))
  have i24 : Hid ((Tryz.prog.info? 24).map (·.size) = some cs.size) := Lib.hid (by rw [hs]; exact info24)
  have i42 : Hid ((Tryz.prog.info? 153).map (·.size) = some cs.size) := Lib.hid (by rw [hs]; exact info42)
  have ho' := Lib.hid ho
  have hs' := Lib.hid hs
  clear hs ho hx
  go_enter Tryz.func235, Tryz.ntmps235
  go_wp2_with fail
  refine (kh.out _).mono ?_
  rintro e w2 ⟨rfl, rfl⟩
  generalize (w.alloc (.cells cs 24)).alloc (.map (halfEnts p) 7) = W at *
  generalize (w.alloc (.cells cs 24)).heap.size = M at *
  have HB := Lib.hid HB0
  have hg := HB0.size
  clear HB0
  have hW : w.heap.size < W.heap.size := r0.lt
  go_upto_region 5 with (first
    | (refine wpList_load_row rfl 24 _ rfl _ _ _ rfl (r0.alloc _) _ Tryz.underlying24 rfl i24.out ?_)
    | (refine wpList_store_top rfl 153 _ _ rfl _ _ _ _ cs rfl rfl (by simp) (by rw [hs'.out]; exact Eq.refl 20) i42.out ho'.out ?_))
  have r1 := (Row.new W 159 #[.func (.func F) #[] #[], .bool true]).alloc (.cells cs 153)
  have r2 := Row.new (W.alloc (.cells #[.func (.func F) #[] #[], .bool true] 159)) 153 cs
  have HB2 := Lib.hid ((HB.out.alloc HB.out.size (.cells #[.func (.func F) #[] #[], .bool true] 159)).alloc (by simp; omega) (.cells cs 153))
  rw [show (W.alloc (.cells #[.func (.func F) #[] #[], .bool true] 159)).heap.size = W.heap.size + 1 by simp] at r2
  have l0 := r1.cell 0
  have l1 := r1.cell 1
  have c1 := (r2.cell o).trans hc
  clear r1 r2 hl r0 hc
  generalize (W.alloc (.cells #[.func (.func F) #[] #[], .bool true] 159)).alloc (.cells cs 153) = W2 at *
  go_wp2_with (first
    | (go_at_call 106; refine (kb.out _).mono ?_; rintro e w' ⟨rfl, rfl⟩)
    | (refine (hF _ _).mono ?_; rintro e w' ⟨rfl, rfl⟩))
  go_ret
  exact ⟨rfl, HB2.out⟩
theorem get_0bc (p : Int) (cs : Array Value) (hs : cs.size = 20) (ho : cs.toList.all (·.oneCell') = true) (x : Int) (hx : Wd16 x) (hc : cs[1]? = some (.int .u16 x)) (w : World) :
    Calls Tryz.prog 235 #[.agg cs, .int .i64 p, .int .i64 0] w fun e w' => e = .returned (.int .u8 (x / 256)) ∧ Below w.heap.size w w' :=
  get_hi p 0 _ 1 lkh_0 (fun b w => fbc_any b w) (fun _ _ => by kernel_rfl) cs hs ho x hx hc w
theorem get_lo (p : Int) (k : Int) (F o : Nat) (hlk : ∀ {w : World} {M : Nat}, w.heap[M]? = some (.map (halfEnts p) 7) → (Instr.lookup 161 (.map (some M)) (.int .i64 k) true).run Tryz.prog w = .ok (.tuple #[halfV (.func (.func F) #[] #[]) false, .bool true]) w) (hF : ∀ (b : Nat) (w : World), Calls Tryz.prog F #[.pointer (some ⟨b, 0, none⟩)] w fun e w' => e = .returned (.pointer (some ⟨b, o, none⟩)) ∧ w = w') (hcall : ∀ (args : Array Value) (w : World), (callFunc F args).run Tryz.prog w = .ok (.enter F args) w) (cs : Array Value) (hs : cs.size = 20) (ho : cs.toList.all (·.oneCell') = true) (x : Int) (hx : Wd16 x) (hc : cs[o]? = some (.int .u16 x)) (w : World) :
    Calls Tryz.prog 235 #[.agg cs, .int .i64 p, .int .i64 k] w fun e w' => e = .returned (.int .u8 (x % 256)) ∧ Below w.heap.size w w' := by
  have kh := Lib.hid (fun w => halves_any p w)
  have kb := Lib.hid (lo_any x hx.1 hx.2)
  have hl := hlk (World.alloc_heap_new (w.alloc (.cells cs 24)) (.map (halfEnts p) 7))
  have r0 := (Row.new w 24 cs).alloc (.map (halfEnts p) 7)
  have HB0 : Below w.heap.size w ((w.alloc (.cells cs 24)).alloc (.map (halfEnts p) 7)) := (by repeat (first | exact Below.refl _ _ | assumption | refine bstep ?_ (by assumption) | refine Below.drew ?_ | refine Below.alloc ?_ (by first | (simp; done) | (simp; omega) | omega) _ | refine Below.setCell ?_ (by first | (simp; done) | (simp; omega) | omega) _))
  have i24 : Hid ((Tryz.prog.info? 24).map (·.size) = some cs.size) := Lib.hid (by rw [hs]; exact info24)
  have i42 : Hid ((Tryz.prog.info? 153).map (·.size) = some cs.size) := Lib.hid (by rw [hs]; exact info42)
  have ho' := Lib.hid ho
  have hs' := Lib.hid hs
  clear hs ho hx
  go_enter Tryz.func235, Tryz.ntmps235
  go_wp2_with fail
  refine (kh.out _).mono ?_
  rintro e w2 ⟨rfl, rfl⟩
  generalize (w.alloc (.cells cs 24)).alloc (.map (halfEnts p) 7) = W at *
  generalize (w.alloc (.cells cs 24)).heap.size = M at *
  have HB := Lib.hid HB0
  have hg := HB0.size
  clear HB0
  have hW : w.heap.size < W.heap.size := r0.lt
  go_upto_region 5 with (first
    | (refine wpList_load_row rfl 24 _ rfl _ _ _ rfl (r0.alloc _) _ Tryz.underlying24 rfl i24.out ?_)
    | (refine wpList_store_top rfl 153 _ _ rfl _ _ _ _ cs rfl rfl (by simp) (by rw [hs'.out]; exact Eq.refl 20) i42.out ho'.out ?_))
  have r1 := (Row.new W 159 #[.func (.func F) #[] #[], .bool false]).alloc (.cells cs 153)
  have r2 := Row.new (W.alloc (.cells #[.func (.func F) #[] #[], .bool false] 159)) 153 cs
  have HB2 := Lib.hid ((HB.out.alloc HB.out.size (.cells #[.func (.func F) #[] #[], .bool false] 159)).alloc (by simp; omega) (.cells cs 153))
  rw [show (W.alloc (.cells #[.func (.func F) #[] #[], .bool false] 159)).heap.size = W.heap.size + 1 by simp] at r2
  have l0 := r1.cell 0
  have l1 := r1.cell 1
  have c1 := (r2.cell o).trans hc
  clear r1 r2 hl r0 hc
  generalize (W.alloc (.cells #[.func (.func F) #[] #[], .bool false] 159)).alloc (.cells cs 153) = W2 at *
  go_wp2_with (first
    | (go_at_call 196; refine (kb.out _).mono ?_; rintro e w' ⟨rfl, rfl⟩)
    | (refine (hF _ _).mono ?_; rintro e w' ⟨rfl, rfl⟩))
  go_ret
  exact ⟨rfl, HB2.out⟩
theorem get_1bc (p : Int) (cs : Array Value) (hs : cs.size = 20) (ho : cs.toList.all (·.oneCell') = true) (x : Int) (hx : Wd16 x) (hc : cs[1]? = some (.int .u16 x)) (w : World) :
    Calls Tryz.prog 235 #[.agg cs, .int .i64 p, .int .i64 1] w fun e w' => e = .returned (.int .u8 (x % 256)) ∧ Below w.heap.size w w' :=
  get_lo p 1 _ 1 lkh_1 (fun b w => fbc_any b w) (fun _ _ => by kernel_rfl) cs hs ho x hx hc w
theorem get_2de (p : Int) (cs : Array Value) (hs : cs.size = 20) (ho : cs.toList.all (·.oneCell') = true) (x : Int) (hx : Wd16 x) (hc : cs[2]? = some (.int .u16 x)) (w : World) :
    Calls Tryz.prog 235 #[.agg cs, .int .i64 p, .int .i64 2] w fun e w' => e = .returned (.int .u8 (x / 256)) ∧ Below w.heap.size w w' :=
  get_hi p 2 _ 2 lkh_2 (fun b w => fde_any b w) (fun _ _ => by kernel_rfl) cs hs ho x hx hc w
theorem get_3de (p : Int) (cs : Array Value) (hs : cs.size = 20) (ho : cs.toList.all (·.oneCell') = true) (x : Int) (hx : Wd16 x) (hc : cs[2]? = some (.int .u16 x)) (w : World) :
    Calls Tryz.prog 235 #[.agg cs, .int .i64 p, .int .i64 3] w fun e w' => e = .returned (.int .u8 (x % 256)) ∧ Below w.heap.size w w' :=
  get_lo p 3 _ 2 lkh_3 (fun b w => fde_any b w) (fun _ _ => by kernel_rfl) cs hs ho x hx hc w
theorem get_4ix (p : Int) (cs : Array Value) (hs : cs.size = 20) (ho : cs.toList.all (·.oneCell') = true) (hF : thirdF p = 306) (x : Int) (hx : Wd16 x) (hc : cs[8]? = some (.int .u16 x)) (w : World) :
    Calls Tryz.prog 235 #[.agg cs, .int .i64 p, .int .i64 4] w fun e w' => e = .returned (.int .u8 (x / 256)) ∧ Below w.heap.size w w' :=
  get_hi p 4 _ 8 (lkh_4 hF) (fun b w => fix_any b w) (fun _ _ => by kernel_rfl) cs hs ho x hx hc w
theorem get_4iy (p : Int) (cs : Array Value) (hs : cs.size = 20) (ho : cs.toList.all (·.oneCell') = true) (hF : thirdF p = 307) (x : Int) (hx : Wd16 x) (hc : cs[9]? = some (.int .u16 x)) (w : World) :
    Calls Tryz.prog 235 #[.agg cs, .int .i64 p, .int .i64 4] w fun e w' => e = .returned (.int .u8 (x / 256)) ∧ Below w.heap.size w w' :=
  get_hi p 4 _ 9 (lkh_4 hF) (fun b w => fiy_any b w) (fun _ _ => by kernel_rfl) cs hs ho x hx hc w
theorem get_4hl (p : Int) (cs : Array Value) (hs : cs.size = 20) (ho : cs.toList.all (·.oneCell') = true) (hF : thirdF p = 308) (x : Int) (hx : Wd16 x) (hc : cs[3]? = some (.int .u16 x)) (w : World) :
    Calls Tryz.prog 235 #[.agg cs, .int .i64 p, .int .i64 4] w fun e w' => e = .returned (.int .u8 (x / 256)) ∧ Below w.heap.size w w' :=
  get_hi p 4 _ 3 (lkh_4 hF) (fun b w => fhl_any b w) (fun _ _ => by kernel_rfl) cs hs ho x hx hc w
theorem get_5ix (p : Int) (cs : Array Value) (hs : cs.size = 20) (ho : cs.toList.all (·.oneCell') = true) (hF : thirdF p = 306) (x : Int) (hx : Wd16 x) (hc : cs[8]? = some (.int .u16 x)) (w : World) :
    Calls Tryz.prog 235 #[.agg cs, .int .i64 p, .int .i64 5] w fun e w' => e = .returned (.int .u8 (x % 256)) ∧ Below w.heap.size w w' :=
  get_lo p 5 _ 8 (lkh_5 hF) (fun b w => fix_any b w) (fun _ _ => by kernel_rfl) cs hs ho x hx hc w
theorem get_5iy (p : Int) (cs : Array Value) (hs : cs.size = 20) (ho : cs.toList.all (·.oneCell') = true) (hF : thirdF p = 307) (x : Int) (hx : Wd16 x) (hc : cs[9]? = some (.int .u16 x)) (w : World) :
    Calls Tryz.prog 235 #[.agg cs, .int .i64 p, .int .i64 5] w fun e w' => e = .returned (.int .u8 (x % 256)) ∧ Below w.heap.size w w' :=
  get_lo p 5 _ 9 (lkh_5 hF) (fun b w => fiy_any b w) (fun _ _ => by kernel_rfl) cs hs ho x hx hc w
theorem get_5hl (p : Int) (cs : Array Value) (hs : cs.size = 20) (ho : cs.toList.all (·.oneCell') = true) (hF : thirdF p = 308) (x : Int) (hx : Wd16 x) (hc : cs[3]? = some (.int .u16 x)) (w : World) :
    Calls Tryz.prog 235 #[.agg cs, .int .i64 p, .int .i64 5] w fun e w' => e = .returned (.int .u8 (x % 256)) ∧ Below w.heap.size w w' :=
  get_lo p 5 _ 3 (lkh_5 hF) (fun b w => fhl_any b w) (fun _ _ => by kernel_rfl) cs hs ho x hx hc w
theorem get_7af (p : Int) (cs : Array Value) (hs : cs.size = 20) (ho : cs.toList.all (·.oneCell') = true) (x : Int) (hx : Wd16 x) (hc : cs[0]? = some (.int .u16 x)) (w : World) :
    Calls Tryz.prog 235 #[.agg cs, .int .i64 p, .int .i64 7] w fun e w' => e = .returned (.int .u8 (x / 256)) ∧ Below w.heap.size w w' :=
  get_hi p 7 _ 0 lkh_7 (fun b w => faf_any b w) (fun _ _ => by kernel_rfl) cs hs ho x hx hc w
theorem get_no (p k : Int) (hk : k < 0 ∨ k = 6 ∨ 7 < k) (cs : Array Value) (w : World) :
    Calls Tryz.prog 235 #[.agg cs, .int .i64 p, .int .i64 k] w fun e w' => e = .returned (.int .u8 0) ∧ Below w.heap.size w w' := by
  have kh := Lib.hid (fun w => halves_any p w)
  have hl := lkh_no (p := p) hk (World.alloc_heap_new (w.alloc (.cells cs 24)) (.map (halfEnts p) 7))
  have HB0 : Below w.heap.size w ((w.alloc (.cells cs 24)).alloc (.map (halfEnts p) 7)) := (by repeat (first | exact Below.refl _ _ | assumption | refine bstep ?_ (by assumption) | refine Below.drew ?_ | refine Below.alloc ?_ (by first | (simp; done) | (simp; omega) | omega) _ | refine Below.setCell ?_ (by first | (simp; done) | (simp; omega) | omega) _))
  clear hk
  go_enter Tryz.func235, Tryz.ntmps235
  go_wp2_with fail
  refine (kh.out _).mono ?_
  rintro e w2 ⟨rfl, rfl⟩
  generalize (w.alloc (.cells cs 24)).alloc (.map (halfEnts p) 7) = W at *
  generalize (w.alloc (.cells cs 24)).heap.size = M at *
  have HB := Lib.hid HB0
  clear HB0
  go_wp2
  go_ret
  exact ⟨rfl, HB.out.alloc HB.out.size _⟩
theorem regsC_one (g : Rg) : (regsC g).toList.all (·.oneCell') = true := rfl
theorem thirdF_dd {p : Int} (h : p = 3) : thirdF p = 306 := by unfold thirdF; rw [if_pos h]
theorem thirdF_fd {p : Int} (h : p ≠ 3) (h4 : p = 4) : thirdF p = 307 := by unfold thirdF; rw [if_neg h, if_pos h4]
theorem thirdF_hl {p : Int} (h : p ≠ 3) (h4 : p ≠ 4) : thirdF p = 308 := by unfold thirdF; rw [if_neg h, if_neg h4]
theorem pairG_2 (g : Rg) (p : Int) : pairG g p 2 = if p = 3 then g.ix else if p = 4 then g.iy else g.hl := rfl
theorem get_any (g : Rg) (hg : RgB g) (p k : Int) (w : World) :
    Calls Tryz.prog 235 #[regsV g, .int .i64 p, .int .i64 k] w fun e w' => e = .returned (.int .u8 (getG g p k)) ∧ Below w.heap.size w w' := by
  by_cases hn : k < 0 ∨ k = 6 ∨ 7 < k
  · rw [getG_no g p k hn]
    exact get_no p k hn _ w
  have h1 := regsC_one g
  obtain rfl | rfl | rfl | rfl | rfl | rfl | rfl : k = 0 ∨ k = 1 ∨ k = 2 ∨ k = 3 ∨ k = 4 ∨ k = 5 ∨ k = 7 := by omega
  · exact get_0bc p _ rfl h1 g.bc hg.bc rfl w
  · exact get_1bc p _ rfl h1 g.bc hg.bc rfl w
  · exact get_2de p _ rfl h1 g.de hg.de rfl w
  · exact get_3de p _ rfl h1 g.de hg.de rfl w
  · show Calls _ _ _ _ fun e w' => e = .returned (.int .u8 (pairG g p 2 / 256)) ∧ _
    rw [pairG_2]
    by_cases h3 : p = 3
    · rw [if_pos h3]
      exact get_4ix p _ rfl h1 (thirdF_dd h3) g.ix hg.ix rfl w
    by_cases h4 : p = 4
    · rw [if_neg h3, if_pos h4]
      exact get_4iy p _ rfl h1 (thirdF_fd h3 h4) g.iy hg.iy rfl w
    · rw [if_neg h3, if_neg h4]
      exact get_4hl p _ rfl h1 (thirdF_hl h3 h4) g.hl hg.hl rfl w
  · show Calls _ _ _ _ fun e w' => e = .returned (.int .u8 (pairG g p 2 % 256)) ∧ _
    rw [pairG_2]
    by_cases h3 : p = 3
    · rw [if_pos h3]
      exact get_5ix p _ rfl h1 (thirdF_dd h3) g.ix hg.ix rfl w
    by_cases h4 : p = 4
    · rw [if_neg h3, if_pos h4]
      exact get_5iy p _ rfl h1 (thirdF_fd h3 h4) g.iy hg.iy rfl w
    · rw [if_neg h3, if_neg h4]
      exact get_5hl p _ rfl h1 (thirdF_hl h3 h4) g.hl hg.hl rfl w
  · exact get_7af p _ rfl h1 g.af hg.af rfl w
theorem pair_at (p : Int) (k : Int) (F o : Nat) (hlk : ∀ {w : World} {M : Nat}, w.heap[M]? = some (.map (pairEnts p) 4) → (Instr.lookup 151 (.map (some M)) (.int .i64 k) true).run Tryz.prog w = .ok (.tuple #[.func (.func F) #[] #[], .bool true]) w) (hF : ∀ (b : Nat) (w : World), Calls Tryz.prog F #[.pointer (some ⟨b, 0, none⟩)] w fun e w' => e = .returned (.pointer (some ⟨b, o, none⟩)) ∧ w = w') (hcall : ∀ (args : Array Value) (w : World), (callFunc F args).run Tryz.prog w = .ok (.enter F args) w) (cs : Array Value) (hs : cs.size = 20) (ho : cs.toList.all (·.oneCell') = true) (x : Int) (hc : cs[o]? = some (.int .u16 x)) (w : World) :
    Calls Tryz.prog 221 #[.agg cs, .int .i64 p, .int .i64 k] w fun e w' => e = .returned (.int .u16 x) ∧ Below w.heap.size w w' := by
  have kh := Lib.hid (fun w => pairs_any p w)
  have hl := hlk (World.alloc_heap_new (w.alloc (.cells cs 24)) (.map (pairEnts p) 4))
  have r0 := (Row.new w 24 cs).alloc (.map (pairEnts p) 4)
  have HB0 : Below w.heap.size w ((w.alloc (.cells cs 24)).alloc (.map (pairEnts p) 4)) := (by repeat (first | exact Below.refl _ _ | assumption | refine bstep ?_ (by assumption) | refine Below.drew ?_ | refine Below.alloc ?_ (by first | (simp; done) | (simp; omega) | omega) _ | refine Below.setCell ?_ (by first | (simp; done) | (simp; omega) | omega) _))
  have i24 : Hid ((Tryz.prog.info? 24).map (·.size) = some cs.size) := Lib.hid (by rw [hs]; exact info24)
  have i42 : Hid ((Tryz.prog.info? 153).map (·.size) = some cs.size) := Lib.hid (by rw [hs]; exact info42)
  have ho' := Lib.hid ho
  have hs' := Lib.hid hs
  clear hs ho
  go_enter Tryz.func221, Tryz.ntmps221
  go_wp2_with fail
  refine (kh.out _).mono ?_
  rintro e w2 ⟨rfl, rfl⟩
  generalize (w.alloc (.cells cs 24)).alloc (.map (pairEnts p) 4) = W at *
  generalize (w.alloc (.cells cs 24)).heap.size = M at *
  have HB := Lib.hid HB0
  have hg := HB0.size
  clear HB0
  have hW : w.heap.size < W.heap.size := r0.lt
  go_upto_region 5 with (first
    | (refine wpList_load_row rfl 24 _ rfl _ _ _ rfl r0 _ Tryz.underlying24 rfl i24.out ?_)
    | (refine wpList_store_top rfl 153 _ _ rfl _ _ _ _ cs rfl rfl (by simp) (by rw [hs'.out]; exact Eq.refl 20) i42.out ho'.out ?_))
  have r2 := Row.new W 153 cs
  have HB2 := Lib.hid (HB.out.alloc HB.out.size (.cells cs 153))
  have c1 := (r2.cell o).trans hc
  clear r2 hl r0 hc
  generalize W.alloc (.cells cs 153) = W2 at *
  go_wp2_with (refine (hF _ _).mono ?_; rintro e w' ⟨rfl, rfl⟩)
  go_ret
  exact ⟨rfl, HB2.out⟩
theorem pair_0bc (p : Int) (cs : Array Value) (hs : cs.size = 20) (ho : cs.toList.all (·.oneCell') = true) (x : Int) (hc : cs[1]? = some (.int .u16 x)) (w : World) :
    Calls Tryz.prog 221 #[.agg cs, .int .i64 p, .int .i64 0] w fun e w' => e = .returned (.int .u16 x) ∧ Below w.heap.size w w' :=
  pair_at p 0 _ 1 lkp_0 (fun b w => fbc_any b w) (fun _ _ => by kernel_rfl) cs hs ho x hc w
theorem pair_1de (p : Int) (cs : Array Value) (hs : cs.size = 20) (ho : cs.toList.all (·.oneCell') = true) (x : Int) (hc : cs[2]? = some (.int .u16 x)) (w : World) :
    Calls Tryz.prog 221 #[.agg cs, .int .i64 p, .int .i64 1] w fun e w' => e = .returned (.int .u16 x) ∧ Below w.heap.size w w' :=
  pair_at p 1 _ 2 lkp_1 (fun b w => fde_any b w) (fun _ _ => by kernel_rfl) cs hs ho x hc w
theorem pair_2ix (p : Int) (cs : Array Value) (hs : cs.size = 20) (ho : cs.toList.all (·.oneCell') = true) (hF : thirdF p = 306) (x : Int) (hc : cs[8]? = some (.int .u16 x)) (w : World) :
    Calls Tryz.prog 221 #[.agg cs, .int .i64 p, .int .i64 2] w fun e w' => e = .returned (.int .u16 x) ∧ Below w.heap.size w w' :=
  pair_at p 2 _ 8 (lkp_2 hF) (fun b w => fix_any b w) (fun _ _ => by kernel_rfl) cs hs ho x hc w
theorem pair_2iy (p : Int) (cs : Array Value) (hs : cs.size = 20) (ho : cs.toList.all (·.oneCell') = true) (hF : thirdF p = 307) (x : Int) (hc : cs[9]? = some (.int .u16 x)) (w : World) :
    Calls Tryz.prog 221 #[.agg cs, .int .i64 p, .int .i64 2] w fun e w' => e = .returned (.int .u16 x) ∧ Below w.heap.size w w' :=
  pair_at p 2 _ 9 (lkp_2 hF) (fun b w => fiy_any b w) (fun _ _ => by kernel_rfl) cs hs ho x hc w
theorem pair_2hl (p : Int) (cs : Array Value) (hs : cs.size = 20) (ho : cs.toList.all (·.oneCell') = true) (hF : thirdF p = 308) (x : Int) (hc : cs[3]? = some (.int .u16 x)) (w : World) :
    Calls Tryz.prog 221 #[.agg cs, .int .i64 p, .int .i64 2] w fun e w' => e = .returned (.int .u16 x) ∧ Below w.heap.size w w' :=
  pair_at p 2 _ 3 (lkp_2 hF) (fun b w => fhl_any b w) (fun _ _ => by kernel_rfl) cs hs ho x hc w
theorem pair_3sp (p : Int) (cs : Array Value) (hs : cs.size = 20) (ho : cs.toList.all (·.oneCell') = true) (x : Int) (hc : cs[10]? = some (.int .u16 x)) (w : World) :
    Calls Tryz.prog 221 #[.agg cs, .int .i64 p, .int .i64 3] w fun e w' => e = .returned (.int .u16 x) ∧ Below w.heap.size w w' :=
  pair_at p 3 _ 10 lkp_3 (fun b w => fsp_any b w) (fun _ _ => by kernel_rfl) cs hs ho x hc w
theorem pair_no (p k : Int) (hk : k < 0 ∨ 3 < k) (cs : Array Value) (w : World) :
    Calls Tryz.prog 221 #[.agg cs, .int .i64 p, .int .i64 k] w fun e w' => e = .returned (.int .u16 0) ∧ Below w.heap.size w w' := by
  have kh := Lib.hid (fun w => pairs_any p w)
  have hl := lkp_no (p := p) hk (World.alloc_heap_new (w.alloc (.cells cs 24)) (.map (pairEnts p) 4))
  have HB0 : Below w.heap.size w ((w.alloc (.cells cs 24)).alloc (.map (pairEnts p) 4)) := (by repeat (first | exact Below.refl _ _ | assumption | refine bstep ?_ (by assumption) | refine Below.drew ?_ | refine Below.alloc ?_ (by first | (simp; done) | (simp; omega) | omega) _ | refine Below.setCell ?_ (by first | (simp; done) | (simp; omega) | omega) _))
  clear hk
  go_enter Tryz.func221, Tryz.ntmps221
  go_wp2_with fail
  refine (kh.out _).mono ?_
  rintro e w2 ⟨rfl, rfl⟩
  generalize (w.alloc (.cells cs 24)).alloc (.map (pairEnts p) 4) = W at *
  generalize (w.alloc (.cells cs 24)).heap.size = M at *
  have HB := Lib.hid HB0
  clear HB0
  go_wp2
  go_ret
  exact ⟨rfl, HB.out⟩
theorem pairG_no (g : Rg) (p k : Int) (h : k < 0 ∨ 3 < k) : pairG g p k = 0 := by
  unfold pairG
  rw [if_neg (by omega), if_neg (by omega), if_neg (by omega), if_neg (by omega)]
theorem pair_any (g : Rg) (p k : Int) (w : World) :
    Calls Tryz.prog 221 #[regsV g, .int .i64 p, .int .i64 k] w fun e w' => e = .returned (.int .u16 (pairG g p k)) ∧ Below w.heap.size w w' := by
  by_cases hn : k < 0 ∨ 3 < k
  · rw [pairG_no g p k hn]
    exact pair_no p k hn _ w
  have h1 := regsC_one g
  obtain rfl | rfl | rfl | rfl : k = 0 ∨ k = 1 ∨ k = 2 ∨ k = 3 := by omega
  · exact pair_0bc p _ rfl h1 g.bc rfl w
  · exact pair_1de p _ rfl h1 g.de rfl w
  · rw [pairG_2]
    by_cases h3 : p = 3
    · rw [if_pos h3]
      exact pair_2ix p _ rfl h1 (thirdF_dd h3) g.ix rfl w
    by_cases h4 : p = 4
    · rw [if_neg h3, if_pos h4]
      exact pair_2iy p _ rfl h1 (thirdF_fd h3 h4) g.iy rfl w
    · rw [if_neg h3, if_neg h4]
      exact pair_2hl p _ rfl h1 (thirdF_hl h3 h4) g.hl rfl w
  · exact pair_3sp p _ rfl h1 g.sp rfl w
theorem tmod128 (y : Int) : -127 ≤ y.tmod 128 ∧ y.tmod 128 ≤ 127 ∧ (y.tmod 128) % 128 = y % 128 := by
  rcases Int.lt_or_le y 0 with h | h
  · obtain ⟨z, rfl⟩ : ∃ z, y = -z := ⟨-y, by omega⟩
    rw [Int.neg_tmod, Int.tmod_eq_emod_of_nonneg (by omega)]
    omega
  · rw [Int.tmod_eq_emod_of_nonneg h]
    omega
theorem and127_fin : ∀ x : Fin 256, bits .and .u8 (x.val : Int) 127 = (x.val : Int) % 128 ∧ bits .andNot .u8 (x.val : Int) 127 = (x.val : Int) / 128 * 128 := by decide +kernel
theorem or128_fin : ∀ h : Fin 2, ∀ l : Fin 128, bits .or .u8 ((h.val : Int) * 128) (l.val : Int) = (h.val : Int) * 128 + (l.val : Int) := by decide +kernel
theorem tick_eq (r n : Int) (hr : B8 r) : bits BinOp.or IntKind.u8 (bits BinOp.andNot IntKind.u8 r 127) (bits BinOp.and IntKind.u8 ((r + n) % 256) 127) = tickR r n := by
  have h1 := (byte_all (P := fun x => bits .and .u8 x 127 = x % 128 ∧ bits .andNot .u8 x 127 = x / 128 * 128) and127_fin r hr.1 hr.2).2
  have h2 := (byte_all (P := fun x => bits .and .u8 x 127 = x % 128 ∧ bits .andNot .u8 x 127 = x / 128 * 128) and127_fin ((r + n) % 256) (by omega) (by omega)).1
  obtain ⟨r0, r1⟩ := hr
  have h3 := or128_fin ⟨(r / 128).toNat, by omega⟩ ⟨((r + n) % 128).toNat, by omega⟩
  rw [show ((⟨(r / 128).toNat, by omega⟩ : Fin 2).val : Int) = r / 128 by show ((r / 128).toNat : Int) = _; omega, show ((⟨((r + n) % 128).toNat, by omega⟩ : Fin 128).val : Int) = (r + n) % 128 by show (((r + n) % 128).toNat : Int) = _; omega] at h3
  rw [h1, h2, show (r + n) % 256 % 128 = (r + n) % 128 by omega, h3]
  rfl
theorem rtick_eq (r n : Int) (hr : B8 r) : wrap64 (r / 128 * 128 + (wrap64 ((r % 128 + n.tmod 128).tmod 128 + 128)).tmod 128) % 256 = tickR r n := by
  obtain ⟨r0, r1⟩ := hr
  obtain ⟨a0, a1, a2⟩ := tmod128 n
  obtain ⟨b0, b1, b2⟩ := tmod128 (r % 128 + n.tmod 128)
  rw [IntWalk.wrap64_in ((r % 128 + n.tmod 128).tmod 128 + 128) ⟨by omega, by omega⟩, Int.tmod_eq_emod_of_nonneg (a := (r % 128 + n.tmod 128).tmod 128 + 128) (by omega), IntWalk.wrap64_in _ ⟨by omega, by omega⟩]
  unfold tickR
  omega
theorem tick_any (g : Rg) (n : Int) (hr : B8 g.r) (w : World) :
    Calls Tryz.prog 43 #[regsV g, .int .i64 n] w fun e w' => e = .returned (regsV (tickG g n)) ∧ Below w.heap.size w w' := by
  obtain ⟨af, bc, de, hl, af2, bc2, de2, hl2, ix, iy, sp, pc, wz, i, r, iff1, iff2, halted, late, mode⟩ := g
  have hr : B8 r := hr
  have HT := Lib.hid (tick_eq r n hr)
  clear hr
  obtain ⟨cs, hcs⟩ : ∃ cs, cs = (#[.int .u16 af, .int .u16 bc, .int .u16 de, .int .u16 hl, .int .u16 af2, .int .u16 bc2, .int .u16 de2, .int .u16 hl2, .int .u16 ix, .int .u16 iy, .int .u16 sp, .int .u16 pc, .int .u16 wz, .int .u8 i, .int .u8 r, .bool iff1, .bool iff2, .bool halted, .bool late, .int .i64 mode] : Array Value) := ⟨_, rfl⟩
  have HE := Lib.hid hcs
  show Calls _ _ #[.agg (#[.int .u16 af, .int .u16 bc, .int .u16 de, .int .u16 hl, .int .u16 af2, .int .u16 bc2, .int .u16 de2, .int .u16 hl2, .int .u16 ix, .int .u16 iy, .int .u16 sp, .int .u16 pc, .int .u16 wz, .int .u8 i, .int .u8 r, .bool iff1, .bool iff2, .bool halted, .bool late, .int .i64 mode] : Array Value), .int .i64 n] _ _
  rw [← hcs]
  clear hcs
  go_enter Tryz.func43, Tryz.ntmps43
  go_upto_region 1 with (fail)
  have rA := (Row.new w 24 cs).alloc (.cells zL 24)
  have rZ := Row.new (w.alloc (.cells cs 24)) 24 zL
  rw [show (w.alloc (.cells cs 24)).heap.size = w.heap.size + 1 by simp] at rZ
  have rZ := Lib.hid rZ
  have HB := Lib.hid (((Below.refl w.heap.size w).alloc (Nat.le_refl _) (.cells cs 24)).alloc (by simp) (.cells zL 24))
  have HW := Lib.hid (show ((w.alloc (.cells cs 24)).alloc (.cells zL 24)).heap.size = w.heap.size + 2 by simp)
  generalize (w.alloc (.cells cs 24)).alloc (.cells zL 24) = W0 at *
  rw [HE.out] at rA
  have rA := Lib.hid rA
  have hltA := rA.out.lt
  have hltZ := rZ.out.lt
  have lA14 : W0.cell? ⟨w.heap.size, 14, none⟩ = some (.int .u8 r) := rA.out.cell 14
  have fA14 := rA.out.frozen 14
  have qA0 : Row (W0.setCell ⟨w.heap.size, 14, none⟩ (.int .u8 (tickR r n))) (w.heap.size) 24 (#[.int .u16 af, .int .u16 bc, .int .u16 de, .int .u16 hl, .int .u16 af2, .int .u16 bc2, .int .u16 de2, .int .u16 hl2, .int .u16 ix, .int .u16 iy, .int .u16 sp, .int .u16 pc, .int .u16 wz, .int .u8 i, .int .u8 (tickR r n), .bool iff1, .bool iff2, .bool halted, .bool late, .int .i64 mode] : Array Value) := rA.out.set 14 (.int .u8 (tickR r n))
  have qZ0 : Row (W0.setCell ⟨w.heap.size, 14, none⟩ (.int .u8 (tickR r n))) (w.heap.size + 1) 24 zL := rZ.out.far (p := ⟨w.heap.size, 14, none⟩) (by simp) (.int .u8 (tickR r n))
  have qA := qA0
  have qZ := qZ0
  clear qA0 qZ0
  have HB' := Lib.hid (HB.out.setCell (p := ⟨w.heap.size, 14, none⟩) (by first | exact Nat.le_refl _ | exact Nat.le_add_right _ _) (.int .u8 (tickR r n)))
  go_upto_region 2 with (fail)
  rw [HT.out]
  clear lA14 fA14 rA rZ HB
  have rA := Lib.hid qA
  have rZ := Lib.hid qZ
  clear qA qZ
  have HB := HB'
  clear HB'
  generalize W0.setCell ⟨w.heap.size, 14, none⟩ (.int .u8 (tickR r n)) = W1 at *
  obtain ⟨ds, hds⟩ : ∃ ds, ds = (#[.int .u16 af, .int .u16 bc, .int .u16 de, .int .u16 hl, .int .u16 af2, .int .u16 bc2, .int .u16 de2, .int .u16 hl2, .int .u16 ix, .int .u16 iy, .int .u16 sp, .int .u16 pc, .int .u16 wz, .int .u8 i, .int .u8 (tickR r n), .bool iff1, .bool iff2, .bool halted, .bool late, .int .i64 mode] : Array Value) := ⟨_, rfl⟩
  have i24 : Hid ((Tryz.prog.info? 24).map (·.size) = some ds.size) := Lib.hid (by rw [hds]; exact info24)
  have one : Hid (ds.toList.all (·.oneCell') = true) := Lib.hid (by rw [hds]; rfl)
  have hsz : Hid (ds.size = 20) := Lib.hid (by rw [hds]; rfl)
  have HD := Lib.hid hds
  have hR := rA.out
  rw [← hds] at hR
  clear hds
  apply wp_region_lit
  refine wpList_load_row rfl 24 _ rfl _ _ _ rfl hR _ Tryz.underlying24 rfl i24.out ?_
  refine wpList_store_row rfl 24 _ _ rfl (w.heap.size + 1) _ _ ds rfl rfl rZ.out (by rw [hsz.out]; exact Eq.refl 20) i24.out one.out ?_
  have rE := rZ.out.setAll (vs := ds) (by rw [hsz.out]; exact Eq.refl 20)
  have HE9 := Lib.hid (Below.setCellsAll HB.out (b := w.heap.size + 1) (Nat.le_add_right _ _) ds.toList 0)
  generalize W1.setCells (w.heap.size + 1) 0 ds.toList = W9 at *
  apply wpList_nil
  rename_i hret
  refine hret _ _ (wp_ret ?_)
  try simp only [Exit.inBlock, Exit.then]
  refine bodyPost_ret (results_row rfl rfl rE _ Tryz.underlying24 rfl i24.out) rfl ?_
  exact ⟨(congrArg (fun q => Ending.returned (Value.agg q)) HD.out).trans rfl, HE9.out⟩
theorem rtick_any (g : Rg) (n : Int) (hr : B8 g.r) (w : World) :
    Calls Tryz.prog 47 #[regsV g, .int .i64 n] w fun e w' => e = .returned (regsV (tickG g n)) ∧ Below w.heap.size w w' := by
  obtain ⟨af, bc, de, hl, af2, bc2, de2, hl2, ix, iy, sp, pc, wz, i, r, iff1, iff2, halted, late, mode⟩ := g
  have hr : B8 r := hr
  have HT := Lib.hid (rtick_eq r n hr)
  obtain ⟨r0, r1⟩ := hr
  have n0 := (tmod128 n).1
  have n1 := (tmod128 n).2.1
  obtain ⟨cs, hcs⟩ : ∃ cs, cs = (#[.int .u16 af, .int .u16 bc, .int .u16 de, .int .u16 hl, .int .u16 af2, .int .u16 bc2, .int .u16 de2, .int .u16 hl2, .int .u16 ix, .int .u16 iy, .int .u16 sp, .int .u16 pc, .int .u16 wz, .int .u8 i, .int .u8 r, .bool iff1, .bool iff2, .bool halted, .bool late, .int .i64 mode] : Array Value) := ⟨_, rfl⟩
  have HE := Lib.hid hcs
  show Calls _ _ #[.agg (#[.int .u16 af, .int .u16 bc, .int .u16 de, .int .u16 hl, .int .u16 af2, .int .u16 bc2, .int .u16 de2, .int .u16 hl2, .int .u16 ix, .int .u16 iy, .int .u16 sp, .int .u16 pc, .int .u16 wz, .int .u8 i, .int .u8 r, .bool iff1, .bool iff2, .bool halted, .bool late, .int .i64 mode] : Array Value), .int .i64 n] _ _
  rw [← hcs]
  clear hcs
  go_enter Tryz.func47, Tryz.ntmps47
  go_upto_region 1 with (fail)
  have rA := (Row.new w 24 cs).alloc (.cells zL 24)
  have rZ := Row.new (w.alloc (.cells cs 24)) 24 zL
  rw [show (w.alloc (.cells cs 24)).heap.size = w.heap.size + 1 by simp] at rZ
  have rZ := Lib.hid rZ
  have HB := Lib.hid (((Below.refl w.heap.size w).alloc (Nat.le_refl _) (.cells cs 24)).alloc (by simp) (.cells zL 24))
  have HW := Lib.hid (show ((w.alloc (.cells cs 24)).alloc (.cells zL 24)).heap.size = w.heap.size + 2 by simp)
  generalize (w.alloc (.cells cs 24)).alloc (.cells zL 24) = W0 at *
  rw [HE.out] at rA
  have rA := Lib.hid rA
  have hltA := rA.out.lt
  have hltZ := rZ.out.lt
  have lA14 : W0.cell? ⟨w.heap.size, 14, none⟩ = some (.int .u8 r) := rA.out.cell 14
  have fA14 := rA.out.frozen 14
  have qA0 : Row (W0.setCell ⟨w.heap.size, 14, none⟩ (.int .u8 (tickR r n))) (w.heap.size) 24 (#[.int .u16 af, .int .u16 bc, .int .u16 de, .int .u16 hl, .int .u16 af2, .int .u16 bc2, .int .u16 de2, .int .u16 hl2, .int .u16 ix, .int .u16 iy, .int .u16 sp, .int .u16 pc, .int .u16 wz, .int .u8 i, .int .u8 (tickR r n), .bool iff1, .bool iff2, .bool halted, .bool late, .int .i64 mode] : Array Value) := rA.out.set 14 (.int .u8 (tickR r n))
  have qZ0 : Row (W0.setCell ⟨w.heap.size, 14, none⟩ (.int .u8 (tickR r n))) (w.heap.size + 1) 24 zL := rZ.out.far (p := ⟨w.heap.size, 14, none⟩) (by simp) (.int .u8 (tickR r n))
  have qA := qA0
  have qZ := qZ0
  clear qA0 qZ0
  have HB' := Lib.hid (HB.out.setCell (p := ⟨w.heap.size, 14, none⟩) (by first | exact Nat.le_refl _ | exact Nat.le_add_right _ _) (.int .u8 (tickR r n)))
  go_upto_region 3 with (fail)
  rw [HT.out]
  clear lA14 fA14 rA rZ HB
  have rA := Lib.hid qA
  have rZ := Lib.hid qZ
  clear qA qZ
  have HB := HB'
  clear HB'
  generalize W0.setCell ⟨w.heap.size, 14, none⟩ (.int .u8 (tickR r n)) = W1 at *
  obtain ⟨ds, hds⟩ : ∃ ds, ds = (#[.int .u16 af, .int .u16 bc, .int .u16 de, .int .u16 hl, .int .u16 af2, .int .u16 bc2, .int .u16 de2, .int .u16 hl2, .int .u16 ix, .int .u16 iy, .int .u16 sp, .int .u16 pc, .int .u16 wz, .int .u8 i, .int .u8 (tickR r n), .bool iff1, .bool iff2, .bool halted, .bool late, .int .i64 mode] : Array Value) := ⟨_, rfl⟩
  have i24 : Hid ((Tryz.prog.info? 24).map (·.size) = some ds.size) := Lib.hid (by rw [hds]; exact info24)
  have one : Hid (ds.toList.all (·.oneCell') = true) := Lib.hid (by rw [hds]; rfl)
  have hsz : Hid (ds.size = 20) := Lib.hid (by rw [hds]; rfl)
  have HD := Lib.hid hds
  have hR := rA.out
  rw [← hds] at hR
  clear hds
  apply wp_region_lit
  refine wpList_load_row rfl 24 _ rfl _ _ _ rfl hR _ Tryz.underlying24 rfl i24.out ?_
  refine wpList_store_row rfl 24 _ _ rfl (w.heap.size + 1) _ _ ds rfl rfl rZ.out (by rw [hsz.out]; exact Eq.refl 20) i24.out one.out ?_
  have rE := rZ.out.setAll (vs := ds) (by rw [hsz.out]; exact Eq.refl 20)
  have HE9 := Lib.hid (Below.setCellsAll HB.out (b := w.heap.size + 1) (Nat.le_add_right _ _) ds.toList 0)
  generalize W1.setCells (w.heap.size + 1) 0 ds.toList = W9 at *
  apply wpList_nil
  rename_i hret
  refine hret _ _ (wp_ret ?_)
  try simp only [Exit.inBlock, Exit.then]
  refine bodyPost_ret (results_row rfl rfl rE _ Tryz.underlying24 rfl i24.out) rfl ?_
  exact ⟨(congrArg (fun q => Ending.returned (Value.agg q)) HD.out).trans rfl, HE9.out⟩
theorem swap_any (g : Rg) (w : World) :
    Calls Tryz.prog 222 #[regsV g] w fun e w' => e = .returned (regsV (swapG g)) ∧ Below w.heap.size w w' := by
  obtain ⟨cs, hcs⟩ : ∃ cs, cs = (regsC g) := ⟨_, rfl⟩
  have HE := Lib.hid hcs
  show Calls _ _ #[.agg (regsC g)] _ _
  rw [← hcs]
  clear hcs
  go_enter Tryz.func222, Tryz.ntmps222
  go_upto_region 1 with (fail)
  have rA := (Row.new w 24 cs).alloc (.cells zL 24)
  have rZ := Row.new (w.alloc (.cells cs 24)) 24 zL
  rw [show (w.alloc (.cells cs 24)).heap.size = w.heap.size + 1 by simp] at rZ
  have rZ := Lib.hid rZ
  have HB := Lib.hid (((Below.refl w.heap.size w).alloc (Nat.le_refl _) (.cells cs 24)).alloc (by simp) (.cells zL 24))
  have HW := Lib.hid (show ((w.alloc (.cells cs 24)).alloc (.cells zL 24)).heap.size = w.heap.size + 2 by simp)
  generalize (w.alloc (.cells cs 24)).alloc (.cells zL 24) = W0 at *
  rw [HE.out] at rA
  have rA := Lib.hid rA
  have hltA := rA.out.lt
  have hltZ := rZ.out.lt
  have lA4 : W0.cell? ⟨w.heap.size, 4, none⟩ = some (.int .u16 g.af2) := rA.out.cell 4
  have lA0 : W0.cell? ⟨w.heap.size, 0, none⟩ = some (.int .u16 g.af) := rA.out.cell 0
  have fA0 := rA.out.frozen 0
  have fA4 := rA.out.frozen 4
  have qA0 : Row (W0.setCell ⟨w.heap.size, 0, none⟩ (.int .u16 g.af2)) (w.heap.size) 24 (regsC { g with af := g.af2 }) := rA.out.set 0 (.int .u16 g.af2)
  have qZ0 : Row (W0.setCell ⟨w.heap.size, 0, none⟩ (.int .u16 g.af2)) (w.heap.size + 1) 24 zL := rZ.out.far (p := ⟨w.heap.size, 0, none⟩) (by simp) (.int .u16 g.af2)
  have qA1 : Row ((W0.setCell ⟨w.heap.size, 0, none⟩ (.int .u16 g.af2)).setCell ⟨w.heap.size, 4, none⟩ (.int .u16 g.af)) (w.heap.size) 24 (regsC { g with af := g.af2, af2 := g.af }) := qA0.set 4 (.int .u16 g.af)
  have qZ1 : Row ((W0.setCell ⟨w.heap.size, 0, none⟩ (.int .u16 g.af2)).setCell ⟨w.heap.size, 4, none⟩ (.int .u16 g.af)) (w.heap.size + 1) 24 zL := qZ0.far (p := ⟨w.heap.size, 4, none⟩) (by simp) (.int .u16 g.af)
  have qA := qA1
  have qZ := qZ1
  clear qA0 qZ0 qA1 qZ1
  have HB' := Lib.hid ((HB.out.setCell (p := ⟨w.heap.size, 0, none⟩) (by first | exact Nat.le_refl _ | exact Nat.le_add_right _ _) (.int .u16 g.af2)).setCell (p := ⟨w.heap.size, 4, none⟩) (by first | exact Nat.le_refl _ | exact Nat.le_add_right _ _) (.int .u16 g.af))
  go_upto_region 2 with (fail)
  clear lA4 lA0 fA0 fA4 rA rZ HB
  have rA := Lib.hid qA
  have rZ := Lib.hid qZ
  clear qA qZ
  have HB := HB'
  clear HB'
  generalize (W0.setCell ⟨w.heap.size, 0, none⟩ (.int .u16 g.af2)).setCell ⟨w.heap.size, 4, none⟩ (.int .u16 g.af) = W1 at *
  obtain ⟨ds, hds⟩ : ∃ ds, ds = (regsC { g with af := g.af2, af2 := g.af }) := ⟨_, rfl⟩
  have i24 : Hid ((Tryz.prog.info? 24).map (·.size) = some ds.size) := Lib.hid (by rw [hds]; exact info24)
  have one : Hid (ds.toList.all (·.oneCell') = true) := Lib.hid (by rw [hds]; rfl)
  have hsz : Hid (ds.size = 20) := Lib.hid (by rw [hds]; rfl)
  have HD := Lib.hid hds
  have hR := rA.out
  rw [← hds] at hR
  clear hds
  apply wp_region_lit
  refine wpList_load_row rfl 24 _ rfl _ _ _ rfl hR _ Tryz.underlying24 rfl i24.out ?_
  refine wpList_store_row rfl 24 _ _ rfl (w.heap.size + 1) _ _ ds rfl rfl rZ.out (by rw [hsz.out]; exact Eq.refl 20) i24.out one.out ?_
  have rE := rZ.out.setAll (vs := ds) (by rw [hsz.out]; exact Eq.refl 20)
  have HE9 := Lib.hid (Below.setCellsAll HB.out (b := w.heap.size + 1) (Nat.le_add_right _ _) ds.toList 0)
  generalize W1.setCells (w.heap.size + 1) 0 ds.toList = W9 at *
  apply wpList_nil
  rename_i hret
  refine hret _ _ (wp_ret ?_)
  try simp only [Exit.inBlock, Exit.then]
  refine bodyPost_ret (results_row rfl rfl rE _ Tryz.underlying24 rfl i24.out) rfl ?_
  exact ⟨(congrArg (fun q => Ending.returned (Value.agg q)) HD.out).trans rfl, HE9.out⟩
theorem exx_any (g : Rg) (w : World) :
    Calls Tryz.prog 241 #[regsV g] w fun e w' => e = .returned (regsV (exxG g)) ∧ Below w.heap.size w w' := by
  obtain ⟨cs, hcs⟩ : ∃ cs, cs = (regsC g) := ⟨_, rfl⟩
  have HE := Lib.hid hcs
  show Calls _ _ #[.agg (regsC g)] _ _
  rw [← hcs]
  clear hcs
  go_enter Tryz.func241, Tryz.ntmps241
  go_upto_region 1 with (fail)
  have rA := (Row.new w 24 cs).alloc (.cells zL 24)
  have rZ := Row.new (w.alloc (.cells cs 24)) 24 zL
  rw [show (w.alloc (.cells cs 24)).heap.size = w.heap.size + 1 by simp] at rZ
  have rZ := Lib.hid rZ
  have HB := Lib.hid (((Below.refl w.heap.size w).alloc (Nat.le_refl _) (.cells cs 24)).alloc (by simp) (.cells zL 24))
  have HW := Lib.hid (show ((w.alloc (.cells cs 24)).alloc (.cells zL 24)).heap.size = w.heap.size + 2 by simp)
  generalize (w.alloc (.cells cs 24)).alloc (.cells zL 24) = W0 at *
  rw [HE.out] at rA
  have rA := Lib.hid rA
  have hltA := rA.out.lt
  have hltZ := rZ.out.lt
  have lA5 : W0.cell? ⟨w.heap.size, 5, none⟩ = some (.int .u16 g.bc2) := rA.out.cell 5
  have lA1 : W0.cell? ⟨w.heap.size, 1, none⟩ = some (.int .u16 g.bc) := rA.out.cell 1
  have fA1 := rA.out.frozen 1
  have fA5 := rA.out.frozen 5
  have qA0 : Row (W0.setCell ⟨w.heap.size, 1, none⟩ (.int .u16 g.bc2)) (w.heap.size) 24 (regsC { g with bc := g.bc2 }) := rA.out.set 1 (.int .u16 g.bc2)
  have qZ0 : Row (W0.setCell ⟨w.heap.size, 1, none⟩ (.int .u16 g.bc2)) (w.heap.size + 1) 24 zL := rZ.out.far (p := ⟨w.heap.size, 1, none⟩) (by simp) (.int .u16 g.bc2)
  have qA1 : Row ((W0.setCell ⟨w.heap.size, 1, none⟩ (.int .u16 g.bc2)).setCell ⟨w.heap.size, 5, none⟩ (.int .u16 g.bc)) (w.heap.size) 24 (regsC { g with bc := g.bc2, bc2 := g.bc }) := qA0.set 5 (.int .u16 g.bc)
  have qZ1 : Row ((W0.setCell ⟨w.heap.size, 1, none⟩ (.int .u16 g.bc2)).setCell ⟨w.heap.size, 5, none⟩ (.int .u16 g.bc)) (w.heap.size + 1) 24 zL := qZ0.far (p := ⟨w.heap.size, 5, none⟩) (by simp) (.int .u16 g.bc)
  have qA := qA1
  have qZ := qZ1
  clear qA0 qZ0 qA1 qZ1
  have HB' := Lib.hid ((HB.out.setCell (p := ⟨w.heap.size, 1, none⟩) (by first | exact Nat.le_refl _ | exact Nat.le_add_right _ _) (.int .u16 g.bc2)).setCell (p := ⟨w.heap.size, 5, none⟩) (by first | exact Nat.le_refl _ | exact Nat.le_add_right _ _) (.int .u16 g.bc))
  go_upto_region 2 with (fail)
  clear lA5 lA1 fA1 fA5 rA rZ HB
  have rA := Lib.hid qA
  have rZ := Lib.hid qZ
  clear qA qZ
  have HB := HB'
  clear HB'
  generalize (W0.setCell ⟨w.heap.size, 1, none⟩ (.int .u16 g.bc2)).setCell ⟨w.heap.size, 5, none⟩ (.int .u16 g.bc) = W1 at *
  have lA6 : W1.cell? ⟨w.heap.size, 6, none⟩ = some (.int .u16 g.de2) := rA.out.cell 6
  have lA2 : W1.cell? ⟨w.heap.size, 2, none⟩ = some (.int .u16 g.de) := rA.out.cell 2
  have fA2 := rA.out.frozen 2
  have fA6 := rA.out.frozen 6
  have qA0 : Row (W1.setCell ⟨w.heap.size, 2, none⟩ (.int .u16 g.de2)) (w.heap.size) 24 (regsC { g with bc := g.bc2, de := g.de2, bc2 := g.bc }) := rA.out.set 2 (.int .u16 g.de2)
  have qZ0 : Row (W1.setCell ⟨w.heap.size, 2, none⟩ (.int .u16 g.de2)) (w.heap.size + 1) 24 zL := rZ.out.far (p := ⟨w.heap.size, 2, none⟩) (by simp) (.int .u16 g.de2)
  have qA1 : Row ((W1.setCell ⟨w.heap.size, 2, none⟩ (.int .u16 g.de2)).setCell ⟨w.heap.size, 6, none⟩ (.int .u16 g.de)) (w.heap.size) 24 (regsC { g with bc := g.bc2, de := g.de2, bc2 := g.bc, de2 := g.de }) := qA0.set 6 (.int .u16 g.de)
  have qZ1 : Row ((W1.setCell ⟨w.heap.size, 2, none⟩ (.int .u16 g.de2)).setCell ⟨w.heap.size, 6, none⟩ (.int .u16 g.de)) (w.heap.size + 1) 24 zL := qZ0.far (p := ⟨w.heap.size, 6, none⟩) (by simp) (.int .u16 g.de)
  have qA := qA1
  have qZ := qZ1
  clear qA0 qZ0 qA1 qZ1
  have HB' := Lib.hid ((HB.out.setCell (p := ⟨w.heap.size, 2, none⟩) (by first | exact Nat.le_refl _ | exact Nat.le_add_right _ _) (.int .u16 g.de2)).setCell (p := ⟨w.heap.size, 6, none⟩) (by first | exact Nat.le_refl _ | exact Nat.le_add_right _ _) (.int .u16 g.de))
  go_upto_region 3 with (fail)
  clear lA6 lA2 fA2 fA6 rA rZ HB
  have rA := Lib.hid qA
  have rZ := Lib.hid qZ
  clear qA qZ
  have HB := HB'
  clear HB'
  generalize (W1.setCell ⟨w.heap.size, 2, none⟩ (.int .u16 g.de2)).setCell ⟨w.heap.size, 6, none⟩ (.int .u16 g.de) = W2 at *
  have lA7 : W2.cell? ⟨w.heap.size, 7, none⟩ = some (.int .u16 g.hl2) := rA.out.cell 7
  have lA3 : W2.cell? ⟨w.heap.size, 3, none⟩ = some (.int .u16 g.hl) := rA.out.cell 3
  have fA3 := rA.out.frozen 3
  have fA7 := rA.out.frozen 7
  have qA0 : Row (W2.setCell ⟨w.heap.size, 3, none⟩ (.int .u16 g.hl2)) (w.heap.size) 24 (regsC { g with bc := g.bc2, de := g.de2, hl := g.hl2, bc2 := g.bc, de2 := g.de }) := rA.out.set 3 (.int .u16 g.hl2)
  have qZ0 : Row (W2.setCell ⟨w.heap.size, 3, none⟩ (.int .u16 g.hl2)) (w.heap.size + 1) 24 zL := rZ.out.far (p := ⟨w.heap.size, 3, none⟩) (by simp) (.int .u16 g.hl2)
  have qA1 : Row ((W2.setCell ⟨w.heap.size, 3, none⟩ (.int .u16 g.hl2)).setCell ⟨w.heap.size, 7, none⟩ (.int .u16 g.hl)) (w.heap.size) 24 (regsC { g with bc := g.bc2, de := g.de2, hl := g.hl2, bc2 := g.bc, de2 := g.de, hl2 := g.hl }) := qA0.set 7 (.int .u16 g.hl)
  have qZ1 : Row ((W2.setCell ⟨w.heap.size, 3, none⟩ (.int .u16 g.hl2)).setCell ⟨w.heap.size, 7, none⟩ (.int .u16 g.hl)) (w.heap.size + 1) 24 zL := qZ0.far (p := ⟨w.heap.size, 7, none⟩) (by simp) (.int .u16 g.hl)
  have qA := qA1
  have qZ := qZ1
  clear qA0 qZ0 qA1 qZ1
  have HB' := Lib.hid ((HB.out.setCell (p := ⟨w.heap.size, 3, none⟩) (by first | exact Nat.le_refl _ | exact Nat.le_add_right _ _) (.int .u16 g.hl2)).setCell (p := ⟨w.heap.size, 7, none⟩) (by first | exact Nat.le_refl _ | exact Nat.le_add_right _ _) (.int .u16 g.hl))
  go_upto_region 4 with (fail)
  clear lA7 lA3 fA3 fA7 rA rZ HB
  have rA := Lib.hid qA
  have rZ := Lib.hid qZ
  clear qA qZ
  have HB := HB'
  clear HB'
  generalize (W2.setCell ⟨w.heap.size, 3, none⟩ (.int .u16 g.hl2)).setCell ⟨w.heap.size, 7, none⟩ (.int .u16 g.hl) = W3 at *
  obtain ⟨ds, hds⟩ : ∃ ds, ds = (regsC { g with bc := g.bc2, de := g.de2, hl := g.hl2, bc2 := g.bc, de2 := g.de, hl2 := g.hl }) := ⟨_, rfl⟩
  have i24 : Hid ((Tryz.prog.info? 24).map (·.size) = some ds.size) := Lib.hid (by rw [hds]; exact info24)
  have one : Hid (ds.toList.all (·.oneCell') = true) := Lib.hid (by rw [hds]; rfl)
  have hsz : Hid (ds.size = 20) := Lib.hid (by rw [hds]; rfl)
  have HD := Lib.hid hds
  have hR := rA.out
  rw [← hds] at hR
  clear hds
  apply wp_region_lit
  refine wpList_load_row rfl 24 _ rfl _ _ _ rfl hR _ Tryz.underlying24 rfl i24.out ?_
  refine wpList_store_row rfl 24 _ _ rfl (w.heap.size + 1) _ _ ds rfl rfl rZ.out (by rw [hsz.out]; exact Eq.refl 20) i24.out one.out ?_
  have rE := rZ.out.setAll (vs := ds) (by rw [hsz.out]; exact Eq.refl 20)
  have HE9 := Lib.hid (Below.setCellsAll HB.out (b := w.heap.size + 1) (Nat.le_add_right _ _) ds.toList 0)
  generalize W3.setCells (w.heap.size + 1) 0 ds.toList = W9 at *
  apply wpList_nil
  rename_i hret
  refine hret _ _ (wp_ret ?_)
  try simp only [Exit.inBlock, Exit.then]
  refine bodyPost_ret (results_row rfl rfl rE _ Tryz.underlying24 rfl i24.out) rfl ?_
  exact ⟨(congrArg (fun q => Ending.returned (Value.agg q)) HD.out).trans rfl, HE9.out⟩
theorem setPair_at (g g' : Rg) (p k v : Int) (F : FuncId) (o : Nat) (x : Int)
    (hlk : ∀ {w : World} {M : Nat}, w.heap[M]? = some (.map (pairEnts p) 4) → (Instr.lookup 151 (.map (some M)) (.int .i64 k) true).run Tryz.prog w = .ok (.tuple #[.func (.func F) #[] #[], .bool true]) w)
    (hF : ∀ (b : Nat) (w : World), Calls Tryz.prog F #[.pointer (some ⟨b, 0, none⟩)] w fun e w' => e = .returned (.pointer (some ⟨b, o, none⟩)) ∧ w = w') (hold : (regsC g)[o]? = some (.int .u16 x)) (hnew : (regsC g).setIfInBounds o (.int .u16 v) = regsC g') (hcall : ∀ (args : Array Value) (w : World), (callFunc F args).run Tryz.prog w = .ok (.enter F args) w) (w : World) :
    Calls Tryz.prog 270 #[regsV g, .int .i64 p, .int .i64 k, .int .u16 v] w fun e w' => e = .returned (regsV g') ∧ Below w.heap.size w w' := by
  have kh := Lib.hid (fun w => pairs_any p w)
  obtain ⟨cs, hcs⟩ : ∃ cs, cs = (regsC g) := ⟨_, rfl⟩
  have HE := Lib.hid hcs
  show Calls _ _ #[.agg (regsC g), .int .i64 p, .int .i64 k, .int .u16 v] _ _
  rw [← hcs]
  clear hcs
  go_enter Tryz.func270, Tryz.ntmps270
  go_upto_region 1 with (fail)
  have rA := (Row.new w 24 cs).alloc (.cells zL 24)
  have rZ := Row.new (w.alloc (.cells cs 24)) 24 zL
  rw [show (w.alloc (.cells cs 24)).heap.size = w.heap.size + 1 by simp] at rZ
  have rZ := Lib.hid rZ
  have HB := Lib.hid (((Below.refl w.heap.size w).alloc (Nat.le_refl _) (.cells cs 24)).alloc (by simp) (.cells zL 24))
  have HW := Lib.hid (show ((w.alloc (.cells cs 24)).alloc (.cells zL 24)).heap.size = w.heap.size + 2 by simp)
  generalize (w.alloc (.cells cs 24)).alloc (.cells zL 24) = W0 at *
  rw [HE.out] at rA
  have rA := Lib.hid rA
  have hltA := rA.out.lt
  have hltZ := rZ.out.lt
  go_wp2_with fail
  refine (kh.out _).mono ?_
  rintro e w2 ⟨rfl, rfl⟩
  have hlk := hlk (World.alloc_heap_new W0 (.map (pairEnts p) 4))
  have qA := Lib.hid (rA.out.alloc (.map (pairEnts p) 4))
  have qZ := Lib.hid (rZ.out.alloc (.map (pairEnts p) 4))
  have HB' := Lib.hid (HB.out.alloc HB.out.size (.map (pairEnts p) 4))
  have HW' := Lib.hid (show (W0.alloc (.map (pairEnts p) 4)).heap.size = w.heap.size + 3 by rw [World.size_alloc, HW.out])
  clear HB HW rA rZ
  have HB := HB'
  have HW := HW'
  have rA := qA
  have rZ := qZ
  clear HB' HW' qA qZ
  generalize W0.alloc (.map (pairEnts p) 4) = W1 at *
  generalize W0.heap.size = M at *
  obtain ⟨es, hes⟩ : ∃ es, es = (regsC g) := ⟨_, rfl⟩
  have HS := Lib.hid hes
  have hA := rA.out
  rw [← hes] at hA
  have hA := Lib.hid hA
  have iR : Hid ((Tryz.prog.info? 24).map (·.size) = some es.size) := Lib.hid (by rw [hes]; exact info24)
  have iE : Hid ((Tryz.prog.info? 153).map (·.size) = some es.size) := Lib.hid (by rw [hes]; exact info42)
  have oE : Hid (es.toList.all (·.oneCell') = true) := Lib.hid (by rw [hes]; rfl)
  have sE : Hid (es.size = 20) := Lib.hid (by rw [hes]; rfl)
  clear hes rA
  go_upto_region 5 with (first
    | (refine wpList_load_row rfl 24 _ rfl _ _ _ rfl hA.out _ Tryz.underlying24 rfl iR.out ?_)
    | (refine wpList_store_top rfl 153 _ _ rfl _ _ _ _ es rfl rfl (by simp) (by rw [sE.out]; exact Eq.refl 20) iE.out oE.out ?_))
  have rF := Row.new W1 153 es
  have qA := hA.out.alloc (.cells es 153)
  have qZ := rZ.out.alloc (.cells es 153)
  have HB' := Lib.hid (HB.out.alloc HB.out.size (.cells es 153))
  have HW' := Lib.hid (show (W1.alloc (.cells es 153)).heap.size = w.heap.size + 4 by rw [World.size_alloc, HW.out])
  rw [HW.out] at rF
  rw [HW.out]
  clear HB HW hA rZ hlk
  have HB := HB'
  have HW := HW'
  clear HB' HW'
  generalize W1.alloc (.cells es 153) = W2 at *
  rw [HS.out] at rF qA
  have rF := Lib.hid rF
  have rA := Lib.hid qA
  have rZ := Lib.hid qZ
  clear qA qZ
  have hltF := rF.out.lt
  have lF1 : W2.cell? ⟨w.heap.size + 3, o, none⟩ = some (.int .u16 x) := (rF.out.cell o).trans hold
  have fF1 := rF.out.frozen o
  have qA0 : Row (W2.setCell ⟨w.heap.size + 3, o, none⟩ (.int .u16 v)) (w.heap.size) 24 (regsC g) := rA.out.far (p := ⟨w.heap.size + 3, o, none⟩) (by simp) (.int .u16 v)
  have qZ0 : Row (W2.setCell ⟨w.heap.size + 3, o, none⟩ (.int .u16 v)) (w.heap.size + 1) 24 zL := rZ.out.far (p := ⟨w.heap.size + 3, o, none⟩) (by simp) (.int .u16 v)
  have qF0 : Row (W2.setCell ⟨w.heap.size + 3, o, none⟩ (.int .u16 v)) (w.heap.size + 3) 153 (regsC g') := hnew ▸ rF.out.set o (.int .u16 v)
  have qA := qA0
  have qZ := qZ0
  have qF := qF0
  clear qA0 qZ0 qF0
  have HB' := Lib.hid (HB.out.setCell (p := ⟨w.heap.size + 3, o, none⟩) (by first | exact Nat.le_refl _ | exact Nat.le_add_right _ _) (.int .u16 v))
  go_upto_region 6 with (refine (hF _ _).mono ?_; rintro e w' ⟨rfl, rfl⟩)
  clear lF1 fF1 rA rZ rF HB
  have rA := Lib.hid qA
  have rZ := Lib.hid qZ
  have rF := Lib.hid qF
  clear qA qZ qF
  have HB := HB'
  clear HB'
  generalize W2.setCell ⟨w.heap.size + 3, o, none⟩ (.int .u16 v) = W3 at *
  obtain ⟨ds, hds⟩ : ∃ ds, ds = (regsC g') := ⟨_, rfl⟩
  have i24 : Hid ((Tryz.prog.info? 24).map (·.size) = some ds.size) := Lib.hid (by rw [hds]; exact info24)
  have one : Hid (ds.toList.all (·.oneCell') = true) := Lib.hid (by rw [hds]; rfl)
  have hsz : Hid (ds.size = 20) := Lib.hid (by rw [hds]; rfl)
  have HD := Lib.hid hds
  have hR := rF.out
  rw [← hds] at hR
  clear hds
  apply wp_region_lit
  have i42 : Hid ((Tryz.prog.info? 153).map (·.size) = some ds.size) := Lib.hid (by rw [hsz.out]; exact info42)
  refine wpList_load_row rfl 153 _ rfl _ _ _ rfl hR _ Tryz.underlying153 rfl i42.out ?_
  refine wpList_store_row rfl 24 _ _ rfl (w.heap.size + 1) _ _ ds rfl rfl rZ.out (by rw [hsz.out]; exact Eq.refl 20) i24.out one.out ?_
  have rE := rZ.out.setAll (vs := ds) (by rw [hsz.out]; exact Eq.refl 20)
  have HE9 := Lib.hid (Below.setCellsAll HB.out (b := w.heap.size + 1) (Nat.le_add_right _ _) ds.toList 0)
  generalize W3.setCells (w.heap.size + 1) 0 ds.toList = W9 at *
  apply wpList_nil
  rename_i hret
  refine hret _ _ (wp_ret ?_)
  try simp only [Exit.inBlock, Exit.then]
  refine bodyPost_ret (results_row rfl rfl rE _ Tryz.underlying24 rfl i24.out) rfl ?_
  exact ⟨(congrArg (fun q => Ending.returned (Value.agg q)) HD.out).trans rfl, HE9.out⟩
theorem setPair_0bc (g : Rg) (p v : Int) (w : World) :
    Calls Tryz.prog 270 #[regsV g, .int .i64 p, .int .i64 0, .int .u16 v] w fun e w' => e = .returned (regsV ({ g with bc := v })) ∧ Below w.heap.size w w' :=
  setPair_at g _ p 0 v _ 1 g.bc lkp_0 (fun b w => fbc_any b w) rfl rfl (fun _ _ => by kernel_rfl) w
theorem setPair_1de (g : Rg) (p v : Int) (w : World) :
    Calls Tryz.prog 270 #[regsV g, .int .i64 p, .int .i64 1, .int .u16 v] w fun e w' => e = .returned (regsV ({ g with de := v })) ∧ Below w.heap.size w w' :=
  setPair_at g _ p 1 v _ 2 g.de lkp_1 (fun b w => fde_any b w) rfl rfl (fun _ _ => by kernel_rfl) w
theorem setPair_2ix (g : Rg) (p v : Int) (hF : thirdF p = 306) (w : World) :
    Calls Tryz.prog 270 #[regsV g, .int .i64 p, .int .i64 2, .int .u16 v] w fun e w' => e = .returned (regsV ({ g with ix := v })) ∧ Below w.heap.size w w' :=
  setPair_at g _ p 2 v _ 8 g.ix (lkp_2 hF) (fun b w => fix_any b w) rfl rfl (fun _ _ => by kernel_rfl) w
theorem setPair_2iy (g : Rg) (p v : Int) (hF : thirdF p = 307) (w : World) :
    Calls Tryz.prog 270 #[regsV g, .int .i64 p, .int .i64 2, .int .u16 v] w fun e w' => e = .returned (regsV ({ g with iy := v })) ∧ Below w.heap.size w w' :=
  setPair_at g _ p 2 v _ 9 g.iy (lkp_2 hF) (fun b w => fiy_any b w) rfl rfl (fun _ _ => by kernel_rfl) w
theorem setPair_2hl (g : Rg) (p v : Int) (hF : thirdF p = 308) (w : World) :
    Calls Tryz.prog 270 #[regsV g, .int .i64 p, .int .i64 2, .int .u16 v] w fun e w' => e = .returned (regsV ({ g with hl := v })) ∧ Below w.heap.size w w' :=
  setPair_at g _ p 2 v _ 3 g.hl (lkp_2 hF) (fun b w => fhl_any b w) rfl rfl (fun _ _ => by kernel_rfl) w
theorem setPair_3sp (g : Rg) (p v : Int) (w : World) :
    Calls Tryz.prog 270 #[regsV g, .int .i64 p, .int .i64 3, .int .u16 v] w fun e w' => e = .returned (regsV ({ g with sp := v })) ∧ Below w.heap.size w w' :=
  setPair_at g _ p 3 v _ 10 g.sp lkp_3 (fun b w => fsp_any b w) rfl rfl (fun _ _ => by kernel_rfl) w
theorem setPair_no (g : Rg) (p k v : Int) (hk : k < 0 ∨ 3 < k) (w : World) :
    Calls Tryz.prog 270 #[regsV g, .int .i64 p, .int .i64 k, .int .u16 v] w fun e w' => e = .returned (regsV (g)) ∧ Below w.heap.size w w' := by
  obtain ⟨af, bc, de, hl, af2, bc2, de2, hl2, ix, iy, sp, pc, wz, i, r, iff1, iff2, halted, late, mode⟩ := g
  have kh := Lib.hid (fun w => pairs_any p w)
  have hk := Lib.hid hk
  obtain ⟨cs, hcs⟩ : ∃ cs, cs = (#[.int .u16 af, .int .u16 bc, .int .u16 de, .int .u16 hl, .int .u16 af2, .int .u16 bc2, .int .u16 de2, .int .u16 hl2, .int .u16 ix, .int .u16 iy, .int .u16 sp, .int .u16 pc, .int .u16 wz, .int .u8 i, .int .u8 r, .bool iff1, .bool iff2, .bool halted, .bool late, .int .i64 mode] : Array Value) := ⟨_, rfl⟩
  have HE := Lib.hid hcs
  show Calls _ _ #[.agg (#[.int .u16 af, .int .u16 bc, .int .u16 de, .int .u16 hl, .int .u16 af2, .int .u16 bc2, .int .u16 de2, .int .u16 hl2, .int .u16 ix, .int .u16 iy, .int .u16 sp, .int .u16 pc, .int .u16 wz, .int .u8 i, .int .u8 r, .bool iff1, .bool iff2, .bool halted, .bool late, .int .i64 mode] : Array Value), .int .i64 p, .int .i64 k, .int .u16 v] _ _
  rw [← hcs]
  clear hcs
  go_enter Tryz.func270, Tryz.ntmps270
  go_upto_region 1 with (fail)
  have rA := (Row.new w 24 cs).alloc (.cells zL 24)
  have rZ := Row.new (w.alloc (.cells cs 24)) 24 zL
  rw [show (w.alloc (.cells cs 24)).heap.size = w.heap.size + 1 by simp] at rZ
  have rZ := Lib.hid rZ
  have HB := Lib.hid (((Below.refl w.heap.size w).alloc (Nat.le_refl _) (.cells cs 24)).alloc (by simp) (.cells zL 24))
  have HW := Lib.hid (show ((w.alloc (.cells cs 24)).alloc (.cells zL 24)).heap.size = w.heap.size + 2 by simp)
  generalize (w.alloc (.cells cs 24)).alloc (.cells zL 24) = W0 at *
  rw [HE.out] at rA
  have rA := Lib.hid rA
  have hltA := rA.out.lt
  have hltZ := rZ.out.lt
  go_wp2_with fail
  refine (kh.out _).mono ?_
  rintro e w2 ⟨rfl, rfl⟩
  have hlk := lkp_no (p := p) hk.out (World.alloc_heap_new W0 (.map (pairEnts p) 4))
  have qA := Lib.hid (rA.out.alloc (.map (pairEnts p) 4))
  have qZ := Lib.hid (rZ.out.alloc (.map (pairEnts p) 4))
  have HB' := Lib.hid (HB.out.alloc HB.out.size (.map (pairEnts p) 4))
  have HW' := Lib.hid (show (W0.alloc (.map (pairEnts p) 4)).heap.size = w.heap.size + 3 by rw [World.size_alloc, HW.out])
  clear HB HW rA rZ
  have HB := HB'
  have HW := HW'
  have rA := qA
  have rZ := qZ
  clear HB' HW' qA qZ
  generalize W0.alloc (.map (pairEnts p) 4) = W1 at *
  generalize W0.heap.size = M at *
  go_upto_region 3 with (fail)
  obtain ⟨ds, hds⟩ : ∃ ds, ds = (#[.int .u16 af, .int .u16 bc, .int .u16 de, .int .u16 hl, .int .u16 af2, .int .u16 bc2, .int .u16 de2, .int .u16 hl2, .int .u16 ix, .int .u16 iy, .int .u16 sp, .int .u16 pc, .int .u16 wz, .int .u8 i, .int .u8 r, .bool iff1, .bool iff2, .bool halted, .bool late, .int .i64 mode] : Array Value) := ⟨_, rfl⟩
  have i24 : Hid ((Tryz.prog.info? 24).map (·.size) = some ds.size) := Lib.hid (by rw [hds]; exact info24)
  have one : Hid (ds.toList.all (·.oneCell') = true) := Lib.hid (by rw [hds]; rfl)
  have hsz : Hid (ds.size = 20) := Lib.hid (by rw [hds]; rfl)
  have HD := Lib.hid hds
  have hR := rA.out
  rw [← hds] at hR
  clear hds
  apply wp_region_lit
  refine wpList_load_row rfl 24 _ rfl _ _ _ rfl hR _ Tryz.underlying24 rfl i24.out ?_
  refine wpList_store_row rfl 24 _ _ rfl (w.heap.size + 1) _ _ ds rfl rfl rZ.out (by rw [hsz.out]; exact Eq.refl 20) i24.out one.out ?_
  have rE := rZ.out.setAll (vs := ds) (by rw [hsz.out]; exact Eq.refl 20)
  have HE9 := Lib.hid (Below.setCellsAll HB.out (b := w.heap.size + 1) (Nat.le_add_right _ _) ds.toList 0)
  generalize W1.setCells (w.heap.size + 1) 0 ds.toList = W9 at *
  apply wpList_nil
  rename_i hret
  refine hret _ _ (wp_ret ?_)
  try simp only [Exit.inBlock, Exit.then]
  refine bodyPost_ret (results_row rfl rfl rE _ Tryz.underlying24 rfl i24.out) rfl ?_
  exact ⟨(congrArg (fun q => Ending.returned (Value.agg q)) HD.out).trans rfl, HE9.out⟩
theorem setPairG_no (g : Rg) (p k v : Int) (h : k < 0 ∨ 3 < k) : setPairG g p k v = g := by
  unfold setPairG
  rw [if_neg (by omega), if_neg (by omega), if_neg (by omega), if_neg (by omega)]
theorem setPairG_2 (g : Rg) (p v : Int) : setPairG g p 2 v = if p = 3 then { g with ix := v } else if p = 4 then { g with iy := v } else { g with hl := v } := rfl
theorem setPair_any (g : Rg) (p k v : Int) (w : World) :
    Calls Tryz.prog 270 #[regsV g, .int .i64 p, .int .i64 k, .int .u16 v] w fun e w' => e = .returned (regsV (setPairG g p k v)) ∧ Below w.heap.size w w' := by
  by_cases hn : k < 0 ∨ 3 < k
  · rw [setPairG_no g p k v hn]
    exact setPair_no g p k v hn w
  obtain rfl | rfl | rfl | rfl : k = 0 ∨ k = 1 ∨ k = 2 ∨ k = 3 := by omega
  · exact setPair_0bc g p v w
  · exact setPair_1de g p v w
  · rw [setPairG_2]
    by_cases h3 : p = 3
    · rw [if_pos h3]
      exact setPair_2ix g p v (thirdF_dd h3) w
    by_cases h4 : p = 4
    · rw [if_neg h3, if_pos h4]
      exact setPair_2iy g p v (thirdF_fd h3 h4) w
    · rw [if_neg h3, if_neg h4]
      exact setPair_2hl g p v (thirdF_hl h3 h4) w
  · exact setPair_3sp g p v w
theorem setter_hi (q : Option Addr) (w : World) : Calls Tryz.prog 283 #[.pointer q, .bool true] w fun e w' => e = .returned (.func (.func 302) #[] #[.pointer (some ⟨w.heap.size, 0, none⟩)]) ∧ w' = w.alloc (.cells #[.pointer q] 154) := by
  go_enter Tryz.func283, Tryz.ntmps283
  go_wp2
  go_ret
  exact ⟨rfl, rfl⟩
theorem setter_lo (q : Option Addr) (w : World) : Calls Tryz.prog 283 #[.pointer q, .bool false] w fun e w' => e = .returned (.func (.func 303) #[] #[.pointer (some ⟨w.heap.size, 0, none⟩)]) ∧ w' = w.alloc (.cells #[.pointer q] 154) := by
  go_enter Tryz.func283, Tryz.ntmps283
  go_wp2
  go_ret
  exact ⟨rfl, rfl⟩
theorem setHi_any (B b o : Nat) (x v : Int) (hx : Wd16 x) (hv : B8 v) (w : World) (h0 : w.cell? ⟨B, 0, none⟩ = some (.pointer (some ⟨b, o, none⟩))) (h1 : w.cell? ⟨b, o, none⟩ = some (.int .u16 x)) (h2 : w.frozen? ⟨b, o, none⟩ = false) :
    Calls Tryz.prog 302 #[.int .u8 v, .pointer (some ⟨B, 0, none⟩)] w fun e w' => e = .returned (.tuple #[]) ∧ w' = (w.setCell ⟨b, o, none⟩ (.int .u16 (256 * v + x % 256))).drew := by
  have k1 := Lib.hid (fun w => lo_any x hx.1 hx.2 w)
  have k2 := Lib.hid (fun w => word_any v (x % 256) hv.1 hv.2 (by omega) (by omega) w)
  clear hx hv
  go_enter Tryz.func302, Tryz.ntmps302
  go_still_tail 8, (by kernel_rfl)
  still_call ((k1.out _).mono fun e w' h => ⟨h.1, h.2.symm⟩)
  repeat still_step
  still_call ((k2.out _).mono fun e w' h => ⟨h.1, h.2.symm⟩)
  repeat still_step
  refine wpStill_nil ?_
  change wpList _ _ _ _ _ w.drew
  go_wp2
  go_end0
  exact ⟨rfl, rfl⟩
theorem setLo_any (B b o : Nat) (x v : Int) (hx : Wd16 x) (hv : B8 v) (w : World) (h0 : w.cell? ⟨B, 0, none⟩ = some (.pointer (some ⟨b, o, none⟩))) (h1 : w.cell? ⟨b, o, none⟩ = some (.int .u16 x)) (h2 : w.frozen? ⟨b, o, none⟩ = false) :
    Calls Tryz.prog 303 #[.int .u8 v, .pointer (some ⟨B, 0, none⟩)] w fun e w' => e = .returned (.tuple #[]) ∧ w' = (w.setCell ⟨b, o, none⟩ (.int .u16 (256 * (x / 256) + v))).drew := by
  have k1 := Lib.hid (fun w => hi_any x hx.1 hx.2 w)
  have k2 := Lib.hid (fun w => word_any (x / 256) v (by have := hx.1; omega) (by have := hx.2; omega) hv.1 hv.2 w)
  clear hx hv
  go_enter Tryz.func303, Tryz.ntmps303
  go_still_tail 8, (by kernel_rfl)
  still_call ((k1.out _).mono fun e w' h => ⟨h.1, h.2.symm⟩)
  repeat still_step
  still_call ((k2.out _).mono fun e w' h => ⟨h.1, h.2.symm⟩)
  repeat still_step
  refine wpStill_nil ?_
  change wpList _ _ _ _ _ w.drew
  go_wp2
  go_end0
  exact ⟨rfl, rfl⟩
end Go.Proofs.YtibmpaeaicpbcaaGreatDoor
