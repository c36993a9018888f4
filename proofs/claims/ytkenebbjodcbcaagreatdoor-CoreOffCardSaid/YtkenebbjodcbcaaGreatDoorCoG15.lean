/- Contracts and facts that the claim's proof wants (several texts in one). -/
import Derived.Defers
import Derived.Recover
import Derived.Maps.RangeWalk
import Derived.KernelRfl
import Derived.Test.YtkenebbjodcbcaaGreatDoorCoG1
import Derived.Test.YtkenebbjodcbcaaGreatDoorCoG14
namespace Go.Proofs.YtkenebbjodcbcaaGreatDoor
open Go.RowKit
set_option linter.unusedVariables false
set_option linter.unusedSimpArgs false
set_option maxRecDepth 20000
set_option maxHeartbeats 20000000
theorem infoCy : (Tryz.prog.info? 29).map (·.size) = some 4 := by kernel_rfl
theorem ldCy {w : World} {b : Nat} {t : TypeId} {c : Cy} (h : Row w b t (cyC c)) : (Instr.loadAt 29 (pT b 0)).run Tryz.prog w = .ok (cyV c) w :=
  run_loadAt_mid w b 0 29 (cyC c).toList _ h.range Tryz.underlying29 rfl infoCy
theorem stCy {w : World} {b : Nat} {t : TypeId} {c d : Cy} (h : Row w b t (cyC d)) : (Instr.storeAt 29 (pT b 0) (cyV c)).run Tryz.prog w = .ok () (w.setCells b 0 (cyC c).toList) :=
  run_storeAt_mid w b 0 29 (cyC c) h.there infoCy (by simp [cyC, Value.oneCell'])
theorem allocCy (w : World) : (Instr.alloc 29 true (.tuple #[])).run Tryz.prog w = .ok (pT w.heap.size 0) (w.alloc (.cells (cyC zeroCy) 29)) := by
  simp [go_sem, zeroCy]
section
variable {P : Program} {ops : Array Oper} {Q : Exit → Act → List Frame → World → Prop} {a : Act} {cs cs' : List Frame} {w w' : World} {i : Nat} {rest : List Nat} {o : Oper}
structure WS (P : Program) (ops : Array Oper) (Q : Exit → Act → List Frame → World → Prop) (l : List Nat) (a : Act) (cs : List Frame) (w : World) : Prop where
  h : wpOpsS P ops Q l a cs w
theorem regionS {id : Nat} (l : List Nat) (hl : List.range ops.size = l) (h : WS P ops Q l a cs w) : (Code.region id ops false).wpS P Q a cs w := wpS_region (by rw [hl]; exact h.h)
theorem endS (h : Q .normal a cs w) : WS P ops Q [] a cs w := ⟨by unfold wpOpsS; exact h⟩
theorem rTake (V : Value) (ho : ops[i]? = some o) (hg : o.guard = none) (he : (execOp a.eval o).run P w = .ok (.value V) w') (h : WS P ops Q rest (a.put o.dst V) cs w') : WS P ops Q (i :: rest) a cs w := by
  constructor
  unfold wpOpsS
  simp only [ho, wantedN hg, if_true, he, Oper.upon_value]
  exact h.h
theorem rDo (ho : ops[i]? = some o) (hg : o.guard = none) (he : (execOp a.eval o).run P w = .ok .skip w') (h : WS P ops Q rest (a.put o.dst undef) cs w') : WS P ops Q (i :: rest) a cs w := by
  constructor
  unfold wpOpsS
  simp only [ho, wantedN hg, if_true, he, Oper.upon_skip]
  exact h.h
theorem rRecover (V : Value) (ho : ops[i]? = some o) (hg : o.guard = none) (he : (execOp a.eval o).run P w = .ok .recover w) (hc : recoverD cs = some (V, cs')) (h : WS P ops Q rest (a.put o.dst V) cs' w) : WS P ops Q (i :: rest) a cs w := by
  constructor
  unfold wpOpsS
  simp only [ho, wantedN hg, if_true, he, hc]
  exact h.h
theorem rNone (ho : ops[i]? = some o) (hg : o.guard = none) (he : (execOp a.eval o).run P w = .ok .recover w) (hc : recoverD cs = none) (h : WS P ops Q rest (a.put o.dst .nilIface) cs w) : WS P ops Q (i :: rest) a cs w := by
  constructor
  unfold wpOpsS
  simp only [ho, wantedN hg, if_true, he, hc]
  exact h.h
theorem heAssert {x : Operand} {V R : Value} {t u : TypeId} {ok : Bool} (ho : o.op = .typeAssert x t u ok) (hx : a.eval x = V) (hr : (Instr.typeAssert V t u ok).run P w = .ok R w) : (execOp a.eval o).run P w = .ok (.value R) w := by
  unfold execOp
  simp only [ho, hx, hr, Sem.run_bind, Sem.run_pure, Result.andThen_ok]
end
theorem ta_yes (v : Value) (w : World) : (Instr.typeAssert (.iface 29 v) 20 29 true).run Tryz.prog w = .ok (.tuple #[v, .bool true]) w := by kernel_rfl
theorem ta_no (w : World) : (Instr.typeAssert .nilIface 20 29 true).run Tryz.prog w = .ok (.tuple #[cyV zeroCy, .bool false]) w := by kernel_rfl
theorem catch_panicking (L : Nat) (c : Cy) (older : List PanicEntry) (w : World) (hL : Row w L 29 (cyC zeroCy)) :
    CallsD Tryz.prog 89 #[pT L 0] (.panicking ({ v := .iface 29 (cyV c), recovered := false } :: older)) w fun e u' w' =>
      e = .returned (.tuple #[]) ∧ u' = .panicking ({ v := .iface 29 (cyV c), recovered := true } :: older) ∧ Row w' L 29 (cyC c) ∧ Besides L L w w' := by
  refine callsD_of_wpS Tryz.func89 rfl fun c₀ cs hu => ?_
  simp only [Tryz.ntmps89, List.size_toArray, List.length_cons, List.length_nil, Nat.reduceAdd, Nat.reduceSub, Array.replicate_succ, Array.replicate_zero, List.push_toArray, List.append_toArray, List.nil_append, List.cons_append]
  apply wpS_seq
  refine regionS [0, 1, 2, 3, 4, 5, 6, 7] (by simp only [List.size_toArray, List.length_cons, List.length_nil, Nat.reduceAdd]; rfl) ?_
  refine rRecover (.iface 29 (cyV c)) rfl rfl (by kernel_rfl) (show recoverD (c₀ :: cs) = some (_, { c₀ with mode := .panicking ({ v := .iface 29 (cyV c), recovered := true } :: older) } :: cs) by simp only [recoverD, hu]) ?_
  refine rTake (.tuple #[cyV c, .bool true]) rfl rfl (heAssert rfl (by kernel_rfl) (ta_yes _ _)) ?_
  refine rTake (.tuple #[cyV c, .bool true]) rfl rfl (heMove (.inl rfl) (by kernel_rfl) _) ?_
  refine rTake (cyV c) rfl rfl (heExtract (vs := #[cyV c, .bool true]) rfl (by kernel_rfl) (by kernel_rfl) _) ?_
  refine rTake (.bool true) rfl rfl (heExtract (vs := #[cyV c, .bool true]) rfl (by kernel_rfl) (by kernel_rfl) _) ?_
  refine rTake (pT w.heap.size 0) rfl rfl (heAlloc rfl (allocCy w)) ?_
  have hL' : Row (w.alloc (.cells (cyC zeroCy) 29)) L 29 (cyC zeroCy) := hL.alloc _
  have hlt := hL.lt
  refine rDo rfl rfl (heStore (ad := ⟨w.heap.size, 0, none⟩) (V := cyV c) rfl (by kernel_rfl) (by kernel_rfl) (stCy (Row.new w _ (cyC zeroCy)))) ?_
  have hN : Row ((w.alloc (.cells (cyC zeroCy) 29)).setCells w.heap.size 0 (cyC c).toList) w.heap.size 29 (cyC c) := (Row.new w _ (cyC zeroCy)).setAll rfl
  have hL2 : Row ((w.alloc (.cells (cyC zeroCy) 29)).setCells w.heap.size 0 (cyC c).toList) L 29 (cyC zeroCy) := hL'.setFar (by omega) _ _
  have hB : Besides L L w ((w.alloc (.cells (cyC zeroCy) 29)).setCells w.heap.size 0 (cyC c).toList) := ((Besides.refl L L w).alloc _).setCells (.inr (.inr (Nat.le_refl _))) _ _
  generalize (w.alloc (.cells (cyC zeroCy) 29)).setCells w.heap.size 0 (cyC c).toList = W at *
  refine rTake (.bool true) rfl rfl (heMove (.inr rfl) (by kernel_rfl) _) ?_
  refine endS ?_
  simp only [Exit.thenS]
  refine wpS_of_wp ?_
  try simp only [Act.put, sA, sB, sC]
  refine wp_seq_k fun K1 hK1 => regionL <| oM 8 (.bool true) ?_
  refine endL ?_
  refine thenN <| hK1 _ _ ?_
  refine wp_cond_true (by kernel_rfl) ?_
  refine regionL <| oL 9 (ldCy hN) <| oS ⟨L, 0, none⟩ (cyV c) (stCy hL2) ?_
  refine endL ?_
  exact ⟨rfl, _, rfl, _, results_none rfl _ _ _, rfl, rfl, hL2.setAll rfl, hB.setCells (.inl rfl) _ _⟩
theorem catch_idle (L : Nat) (w : World) :
    CallsD Tryz.prog 89 #[pT L 0] .returning w fun e u' w' => e = .returned (.tuple #[]) ∧ u' = .returning ∧ Below w.heap.size w w' := by
  refine callsD_of_wpS Tryz.func89 rfl fun c₀ cs hu => ?_
  simp only [Tryz.ntmps89, List.size_toArray, List.length_cons, List.length_nil, Nat.reduceAdd, Nat.reduceSub, Array.replicate_succ, Array.replicate_zero, List.push_toArray, List.append_toArray, List.nil_append, List.cons_append]
  apply wpS_seq
  refine regionS [0, 1, 2, 3, 4, 5, 6, 7] (by simp only [List.size_toArray, List.length_cons, List.length_nil, Nat.reduceAdd]; rfl) ?_
  refine rNone rfl rfl (by kernel_rfl) (show recoverD (c₀ :: cs) = none by simp only [recoverD, hu]) ?_
  refine rTake (.tuple #[cyV zeroCy, .bool false]) rfl rfl (heAssert rfl (by kernel_rfl) (ta_no _)) ?_
  refine rTake (.tuple #[cyV zeroCy, .bool false]) rfl rfl (heMove (.inl rfl) (by kernel_rfl) _) ?_
  refine rTake (cyV zeroCy) rfl rfl (heExtract (vs := #[cyV zeroCy, .bool false]) rfl (by kernel_rfl) (by kernel_rfl) _) ?_
  refine rTake (.bool false) rfl rfl (heExtract (vs := #[cyV zeroCy, .bool false]) rfl (by kernel_rfl) (by kernel_rfl) _) ?_
  refine rTake (pT w.heap.size 0) rfl rfl (heAlloc rfl (allocCy w)) ?_
  refine rDo rfl rfl (heStore (ad := ⟨w.heap.size, 0, none⟩) (V := cyV zeroCy) rfl (by kernel_rfl) (by kernel_rfl) (stCy (Row.new w _ (cyC zeroCy)))) ?_
  have hB : Below w.heap.size w ((w.alloc (.cells (cyC zeroCy) 29)).setCells w.heap.size 0 (cyC zeroCy).toList) := Below.setCellsAll (Below.alloc (Below.refl _ _) (Nat.le_refl _) _) (Nat.le_refl _) _ _
  refine rTake (.bool false) rfl rfl (heMove (.inr rfl) (by kernel_rfl) _) ?_
  refine endS ?_
  simp only [Exit.thenS]
  refine wpS_of_wp ?_
  try simp only [Act.put, sA, sB, sC]
  refine wp_seq_k fun K1 hK1 => regionL <| oM 8 (.bool false) ?_
  refine endL ?_
  refine thenN <| hK1 _ _ ?_
  refine wp_cond_false (by kernel_rfl) ?_
  refine wp_skip ?_
  exact ⟨rfl, _, by rw [← hu], _, results_none rfl _ _ _, rfl, rfl, hB⟩
theorem allocRg (w : World) : (Instr.alloc 24 true (.tuple #[])).run Tryz.prog w = .ok (pT w.heap.size 0) (w.alloc (.cells (regsC zeroRg) 24)) := by
  simp [go_sem, zeroRg, regsC]
theorem stRow {w : World} {b : Nat} {t : TypeId} {g d : Rg} (h : Row w b t (regsC d)) : (Instr.storeAt 24 (pT b 0) (regsV g)).run Tryz.prog w = .ok () (w.setCells b 0 (regsC g).toList) := stR h.there
theorem Besides.more {p L : Nat} {w w' w'' : World} (h : Besides p p w w') (k : Besides L L w' w'') (hL : w.heap.size ≤ L) : Besides p p w w'' :=
  ⟨k.os.trans h.os, k.tape.trans h.tape, k.output.trans h.output, Nat.le_trans h.size k.size, fun b hb n1 n2 => (k.block b (Nat.lt_of_lt_of_le hb h.size) (by omega) (by omega)).trans (h.block b hb n1 n2)⟩
theorem results_told {fn : Func} {t1 t2 t3 : Tmp} {u v : TypeId} (h : fn.results = #[.cell t1 29, .cell t2 24, .tmp t3]) {tmps : Array Value} {w : World} {L M : Nat} {c : Cy} {g : Rg} {b : Bool}
    (h1 : tmps.getD t1 undef = pT L 0) (h2 : tmps.getD t2 undef = pT M 0) (h3 : tmps.getD t3 undef = .bool b) (hL : Row w L u (cyC c)) (hM : Row w M v (regsC g)) : (results fn tmps).run Tryz.prog w = .ok (.tuple #[cyV c, regsV g, .bool b]) w := by
  have h1' : tmps[t1]?.getD undef = pT L 0 := by simpa using h1
  have h2' : tmps[t2]?.getD undef = pT M 0 := by simpa using h2
  have h3' : tmps[t3]?.getD undef = .bool b := by simpa using h3
  have e1 := loadVar_row (P := Tryz.prog) hL Tryz.underlying29 rfl infoCy
  have e2 := loadVar_row (P := Tryz.prog) hM Tryz.underlying24 rfl infoRg
  simp [results, h, h1', h2', h3', asAddr, e1, e2]
def tellV : Except Cy (Ms × List Int) → Value
  | .ok (s, _) => .tuple #[cyV zeroCy, regsV s.r, .bool true]
  | .error c => .tuple #[cyV c, regsV zeroRg, .bool false]
theorem sDefer {P : Program} {ops : Array Oper} {Q : Exit → Act → World → Prop} {a : Act} {w : World} {o : Oper} {rest : List Oper} (d : Deferred) (hd : o.dst = none) (hg : o.guard = none) (he : (execOp a.eval o).run P w = .ok (.defer d) w)
    (h : WL P ops Q rest { a with defers := d :: a.defers } w) : WL P ops Q (o :: rest) a w :=
  ⟨wpList_step fun K hK => by
    rw [if_pos (wantedN hg)]
    unfold Oper.wp
    rw [he, Oper.upon_defer, hd]
    exact hK _ _ h.h⟩
theorem heFn {P : Program} {a : Act} {o : Oper} {x : Operand} {F : FuncId} {cap : Array Value} {w : World} (ho : o.op = .call { callee := .value x, args := #[], argTypes := #[] }) (hx : a.eval x = .func (.func F) #[] cap) (hen : (callFunc F cap).run P w = .ok (.enter F cap) w) :
    (execOp a.eval o).run P w = .ok (.enter F cap) w := by
  unfold execOp
  simp [ho, resolve, hx, Deferred.ofValue, invoke, hen]
theorem part_do {P : Program} {ops : Array Oper} {Q : Exit → Act → World → Prop} {S : World → Prop} {n i f : Nat} {listed : Array Bool} {a : Act} {w w' : World} {o : Oper} (hd : o.dst = none) (ho : ops[i]? = some o) (hr : Region.ready .any ops listed = [i]) (hin : decide (i < n) = true)
    (hw : Region.wanted o (yielded ops a.tmps) = true) (he : (execOp a.eval o).run P w = .ok .skip w') (hS : S w')
    (hK : partT P ops Q S n f (listed.setIfInBounds i true) a w') : partT P ops Q S n (f + 1) listed a w := by
  intro inv
  have hr' : i ∈ Region.ready .any ops listed := by rw [hr]; simp
  refine ⟨by rw [hr]; simp, fun j hj => ?_⟩
  rw [hr] at hj
  have hji : j = i := by simpa using hj
  subst hji
  refine ⟨of_decide_eq_true hin, ?_⟩
  unfold wpOp
  simp only [ho, hw, if_true]
  refine .inl ?_
  unfold Oper.wp
  rw [he, Oper.upon_skip, hd]
  exact ⟨hS, hK (inv.set hr' (of_decide_eq_true hin))⟩
theorem m_run (F : FuncId) (cap : Array Value) (hen : ∀ w, (callFunc F cap).run Tryz.prog w = .ok (.enter F cap) w) {X : Except Cy (Ms × List Int)} {s : Ms} {xs : List Int} {w : World} {p B : Nat} (h : AtN w p B s xs)
    (hF : ∀ w', AtN w' p B s xs → Below w.heap.size w w' → Calls Tryz.prog F cap w' (OutV w' p B X)) :
    Calls Tryz.prog 70 #[pT p 0, .func (.func F) #[] cap] w (fun e w' => e = .returned (tellV X) ∧ Besides p p w w') := by
  go_enter_defers Tryz.func70, Tryz.ntmps70
  refine wp_seq_k fun K1 hK1 => regionL ?_
  have hp := h.lt
  refine list_make 4 (pT w.heap.size 0) rfl (wantedN rfl) (heAlloc rfl (allocCy w)) ?_
  refine list_make 5 (.pointer (some ⟨(w.alloc (.cells (cyC zeroCy) 29)).heap.size, 0, none⟩)) rfl (wantedN rfl) (heAlloc rfl (allocRg _)) ?_
  have h1 := h.below (Below.alloc (Below.refl w.heap.size w) (Nat.le_refl _) (.cells (cyC zeroCy) 29))
  have h2 := h1.below (Below.alloc (Below.refl _ _) (Nat.le_refl _) (.cells (regsC zeroRg) 24))
  have hb0 : Besides p p w ((w.alloc (.cells (cyC zeroCy) 29)).alloc (.cells (regsC zeroRg) 24)) := ((Besides.refl p p w).alloc _).alloc _
  have hW : Below w.heap.size w ((w.alloc (.cells (cyC zeroCy) 29)).alloc (.cells (regsC zeroRg) 24)) := Below.alloc (Below.alloc (Below.refl _ _) (Nat.le_refl _) _) (by simp) _
  have hL := (Row.new w 29 (cyC zeroCy)).alloc (.cells (regsC zeroRg) 24)
  have hM := Row.new (w.alloc (.cells (cyC zeroCy) 29)) 24 (regsC zeroRg)
  obtain ⟨L, hLe⟩ : ∃ L, L = w.heap.size := ⟨_, rfl⟩
  obtain ⟨M, hMe⟩ : ∃ M, M = (w.alloc (.cells (cyC zeroCy) 29)).heap.size := ⟨_, rfl⟩
  have hML : M = L + 1 := by rw [hMe, hLe]; simp
  rw [← hMe] at hM ⊢
  rw [← hLe] at hL hW ⊢
  generalize (w.alloc (.cells (cyC zeroCy) 29)).alloc (.cells (regsC zeroRg) 24) = W at *
  clear hMe h1
  refine oA 6 (.bool false) ?_
  refine endL ?_
  try simp only [Act.put, sA, sB, sC]
  refine thenN <| hK1 _ _ <| wp_seq_k fun K2 hK2 => regionL ?_
  refine list_take 7 (.func (.func 89) #[] #[pT L 0]) rfl (wantedN rfl) (heFunc rfl (by kernel_rfl) (by kernel_rfl) _) ?_
  refine sDefer { target := .fn (.func 89) #[pT L 0], args := #[] } rfl rfl (by kernel_rfl) ?_
  refine endL ?_
  try simp only [Act.put, sA, sB, sC]
  refine thenN <| hK2 _ _ <| wp_seq_k fun K3 hK3 => regionL <| oM 8 (.func (.func F) #[] cap) ?_
  have hn := NowN.begin h2
  refine sCallV hn rfl (heFn rfl (by kernel_rfl) (hen W)) (hF W h2 (by rw [← hLe]; exact hW)) (fun c w' hX hb => ?_) ?_
  · have hb := hb.bes
    refine thenX ?_
    subst hX
    refine leaves_cons (f := 89) (args := #[pT L 0]) (by simp) (by simp [go_sem]) ?_
    have hL' := hL.besides hb (by omega) (by omega)
    have hM' := hM.besides hb (by omega) (by omega)
    refine (catch_panicking L c [] w' hL').mono ?_
    rintro e u' w'' ⟨rfl, rfl, hA, hB⟩
    refine ⟨_, results_told rfl (by kernel_rfl) (by kernel_rfl) (by kernel_rfl) hA (hM'.besides hB (by omega) (by omega)), rfl, ?_⟩
    exact (hb0.trans hb).more hB (by omega)
  intro s1 xs1 w1 hX hn
  subst hX
  have hL' := hL.besides hn.bes (by omega) (by omega)
  have hM' := hM.besides hn.bes (by omega) (by omega)
  refine endL ?_
  try simp only [Act.put, sA, sB, sC]
  refine thenN <| hK3 _ _ <| wp_seq_k fun K4 hK4 => ?_
  refine Code.wp_mono (Q := fun e a w => match e with | .normal => K4 a w | _ => False) (fun e a w h => by cases e <;> first | exact h | exact h.elim) ?_
  refine part_start 6 (fun w' => AtN w' p B s1 xs1) (by kernel_rfl) (by kernel_rfl) hn.at_.drew ?_
  intro w2 hw2 hS
  have hL2 : Row w2 L 29 (cyC zeroCy) := by subst hw2; exact hL'.drew
  have hM2 : Row w2 M 24 (regsC zeroRg) := by subst hw2; exact hM'.drew
  refine yG 0 10 (cyV zeroCy) rfl (fun w hS => heBuild (cells := cyC zeroCy) rfl (by kernel_rfl) w) hS <| yM 1 11 (pT p 0) hS <| yN 2 12 p 0 hS <| yF 3 13 (fM0 p) hS <| yL 4 14 (regsV s1.r) (fun w hS => ldR hS.regs) hS ?_
  have hL3 : Row (w2.setCells L 0 (cyC zeroCy).toList) L 29 (cyC zeroCy) := hL2.setAll rfl
  have hM3 := hM2.setFar (by omega : M ≠ L) (cyC zeroCy).toList 0
  have hb3 : Besides L L w2 (w2.setCells L 0 (cyC zeroCy).toList) := (Besides.refl L L w2).setCells (.inl rfl) _ _
  have hb2 : Besides p p W w2 := by subst hw2; exact hn.bes.drew
  refine part_do (i := 5) (by rfl) rfl (by kernel_rfl) (by kernel_rfl) (by kernel_rfl) (by exact heStore (ad := ⟨L, 0, none⟩) (V := cyV zeroCy) rfl (by kernel_rfl) (by kernel_rfl) (stCy hL2)) (hS.far (by omega) (by have := hS.low; omega) _ _) ?_
  refine part_end (by kernel_rfl) ?_
  simp only [List.drop_succ_cons, List.drop_zero]
  try simp only [Act.put, sA, sB, sC]
  refine oS ⟨M, 0, none⟩ (regsV s1.r) (stRow hM3) ?_
  have hL4 := hL3.setFar (by omega : L ≠ M) (regsC s1.r).toList 0
  have hM4 : Row ((w2.setCells L 0 (cyC zeroCy).toList).setCells M 0 (regsC s1.r).toList) M 24 (regsC s1.r) := hM3.setAll rfl
  have hb4 : Besides M M (w2.setCells L 0 (cyC zeroCy).toList) ((w2.setCells L 0 (cyC zeroCy).toList).setCells M 0 (regsC s1.r).toList) := (Besides.refl M M _).setCells (.inl rfl) _ _
  have hbes : Besides p p w ((w2.setCells L 0 (cyC zeroCy).toList).setCells M 0 (regsC s1.r).toList) := ((hb0.trans hb2).more hb3 (by omega)).more hb4 (by omega)
  generalize (w2.setCells L 0 (cyC zeroCy).toList).setCells M 0 (regsC s1.r).toList = W5 at *
  refine oA 6 (.bool true) ?_
  refine endL ?_
  try simp only [Act.put, sA, sB, sC]
  refine hK4 _ _ ?_
  refine wp_ret ?_
  refine leaves_cons (f := 89) (args := #[pT L 0]) (by simp) (by simp [go_sem]) ?_
  refine (catch_idle L _).mono ?_
  rintro e u' w'' ⟨rfl, rfl, hB⟩
  exact ⟨_, results_told rfl (by kernel_rfl) (by kernel_rfl) (by kernel_rfl) (hL4.below hB hL4.lt) (hM4.below hB hM4.lt), rfl, hbes.trans (.of_below hB)⟩
theorem m_glance1 {s : Ms} {xs : List Int} {w : World} {p B : Nat} (h : AtN w p B s xs) :
    Calls Tryz.prog 71 #[pT p 0] w (OutV w p B (((glanceN s).bind fun b => .done b.2).run xs)) := by
  have hn := NowN.begin h
  go_enter Tryz.func71, Tryz.ntmps71
  refine regionL ?_
  refine sCallI hn rfl (by kernel_rfl) (m_glance hn.at_) (fun c w' hX hb => panicP rfl (OutV.err (Tr.run_bind_error hX _) hb)) ?_
  intro v1 s1 xs1 w1 hX hk hn
  refine endL ?_
  refine endV rfl rfl ?_
  exact OutV.ok ((Tr.run_bind_ok hX _).trans (Tr.run_done _ _)) hn
def nextX (s : Ms) (xs : List Int) : Except Cy (Ms × List Int) :=
  match (fetchN s).run xs with
  | .ok ((b, t), ys) => execN ys b t.noLate
  | .error c => .error c
theorem m_whole {s : Ms} {xs : List Int} {w : World} {p B : Nat} (h : AtN w p B s xs) :
    Calls Tryz.prog 73 #[pT p 0] w (OutV w p B (nextX s xs)) := by
  have hn := NowN.begin h
  go_enter Tryz.func73, Tryz.ntmps73
  refine regionL ?_
  refine sCallI hn rfl (by kernel_rfl) (m_fetch hn.at_) (fun c w' hX hb => panicP rfl (OutV.err (by rw [nextX, hX]) hb)) ?_
  intro v1 s1 xs1 w1 hX hk hn
  have e : nextX s xs = execN xs1 v1 s1.noLate := by rw [nextX, hX]
  refine sCallV hn rfl (by kernel_rfl) (m_instruction v1 hk hn.at_) (fun c w' hX hb => panicP rfl (OutV.err (e.trans hX) hb)) ?_
  intro s2 xs2 w2 hX hn
  refine endL ?_
  refine endV rfl rfl ?_
  exact OutV.ok (e.trans hX) hn
theorem m_after1 (c : Int) (hc : B8 c) {L : Nat} {t : TypeId} {s : Ms} {xs : List Int} {w : World} {p B : Nat} (h : AtN w p B s xs) (hL : Row w L t #[.int .u8 c]) :
    Calls Tryz.prog 143 #[pT p 0, pT L 0] w (OutV w p B (execN xs c s.noLate)) := by
  have hn := NowN.begin h
  go_enter Tryz.func143, Tryz.ntmps143
  refine regionL <| oL 2 (ld8 (hL.cell 0)) ?_
  refine sCallV hn rfl (by kernel_rfl) (m_instruction c hc hn.at_) (fun c w' hX hb => panicP rfl (OutV.err hX hb)) ?_
  intro s2 xs2 w2 hX hn
  refine endL ?_
  refine endV rfl rfl ?_
  exact OutV.ok hX hn
def ms0 (g : Rg) : Ms := ⟨g, 0, 0, 0, 0, 0, 0, 0, false⟩
theorem ms0_b {g : Rg} (h : RgB g) : MsB (ms0 g) := ⟨h, .inl rfl, by simp [ms0], by simp [ms0], by simp [ms0], by simp [ms0], by simp [ms0], Wd16.zero⟩
def zeroM : Array Value := mC (ms0 zeroRg) none 0 0
theorem infoM : (Tryz.prog.info? 118).map (·.size) = some 29 := by kernel_rfl
theorem allocM (w : World) : (Instr.alloc 118 true (.tuple #[])).run Tryz.prog w = .ok (pT w.heap.size 0) (w.alloc (.cells zeroM 118)) := by
  simp [go_sem, zeroM, zeroRg, ms0]
theorem boxRg (g : Rg) (w : World) : (Instr.box 24 (regsV g)).run Tryz.prog w = .ok (pT w.heap.size 0) (w.alloc (.cells (regsC g) 24)) := by
  simp [go_sem]
theorem box8 (c : Int) (w : World) : (Instr.box 5 (.int .u8 c)).run Tryz.prog w = .ok (pT w.heap.size 0) (w.alloc (.cells #[.int .u8 c] 5)) := by
  simp [go_sem]
theorem heBox {P : Program} {a : Act} {o : Oper} {t : TypeId} {x : Operand} {V R : Value} {w w' : World} (ho : o.op = .box t x) (hx : a.eval x = V) (h : (Instr.box t V).run P w = .ok R w') : (execOp a.eval o).run P w = .ok (.value R) w' := by
  unfold execOp
  simp only [ho, hx, Sem.run_bind, h, Result.andThen_ok, Sem.run_pure]
def nextOf (g : Rg) (xs : List Int) : Except Cy (Ms × List Int) := if g.halted = true then ((glanceN (ms0 g)).bind fun b => .done b.2).run xs else nextX (ms0 g) xs
def afterOf (g : Rg) (c : Int) (xs : List Int) : Except Cy (Ms × List Int) := execN xs c (ms0 g).noLate
def cyOf : Except Cy (Ms × List Int) → Cy | .ok _ => zeroCy | .error c => c
def rgOf : Except Cy (Ms × List Int) → Rg | .ok (s, _) => s.r | .error _ => zeroRg
def doneOf : Except Cy (Ms × List Int) → Bool | .ok _ => true | .error _ => false
theorem tellV_eq (X : Except Cy (Ms × List Int)) : tellV X = .tuple #[cyV (cyOf X), regsV (rgOf X), .bool (doneOf X)] := by
  rcases X with c | ⟨s, ys⟩ <;> rfl
section
variable {w : World} {g : Rg} {A : Option Addr} {cap : Nat} {xs : List Int}
theorem at_new {w W : World} (hk : ∀ b, b < w.heap.size → W.heap[b]? = w.heap[b]?) (hs : w.heap.size ≤ W.heap.size) (hg : RgB g) (hc : xs.length ≤ cap) (h8 : Bytes8 xs) (hin : BytesIn w w.heap.size A xs) (ht : Tabs w w.heap.size) :
    AtN ((W.alloc (.cells zeroM 118)).setCells W.heap.size 0 (mC (ms0 g) A xs.length cap).toList) W.heap.size w.heap.size (ms0 g) xs := by
  rw [setCells_new W _ zeroM (mC (ms0 g) A xs.length cap) rfl]
  have k : ∀ b, b < w.heap.size → (W.alloc (.cells (mC (ms0 g) A xs.length cap) 118)).heap[b]? = w.heap[b]? := fun b hb => (Below.heap_alloc W _ b (by omega)).trans (hk b hb)
  exact ⟨⟨A, cap, hc, Row.new W _ _, hin.keep k⟩, hs, h8, ms0_b hg, ht.keep k⟩
theorem stM {W : World} (g : Rg) (A : Option Addr) (n cap : Nat) : (Instr.storeAt 118 (pT W.heap.size 0) (.agg (mC (ms0 g) A n cap))).run Tryz.prog (W.alloc (.cells zeroM 118)) = .ok () ((W.alloc (.cells zeroM 118)).setCells W.heap.size 0 (mC (ms0 g) A n cap).toList) :=
  run_storeAt_mid _ _ 0 _ (mC (ms0 g) A n cap) (Row.new W _ zeroM).there infoM (by simp [mC, Value.oneCell'])
end
theorem nnext_any (g : Rg) (hg : RgB g) (A : Option Addr) (cap : Nat) (xs : List Int) (hc : xs.length ≤ cap) (h8 : Bytes8 xs) (w : World) (hin : BytesIn w w.heap.size A xs) (ht : Tabs w w.heap.size) :
    Calls Tryz.prog 55 #[regsV g, .slice A xs.length cap] w (fun e w' => e = .returned (tellV (nextOf g xs)) ∧ Below w.heap.size w w') := by
  go_enter Tryz.func55, Tryz.ntmps55
  refine wp_seq_k fun K1 hK1 => regionL ?_
  refine list_make 2 (pT w.heap.size 0) rfl (wantedN rfl) (heBox rfl (by kernel_rfl) (boxRg g w)) ?_
  have r0 := Row.new w 24 (regsC g)
  have hb := Below.alloc (Below.refl w.heap.size w) (Nat.le_refl _) (.cells (regsC g) 24)
  obtain ⟨L0, hL0⟩ : ∃ L, L = w.heap.size := ⟨_, rfl⟩
  rw [← hL0] at r0 ⊢
  have l0 := r0.lt
  generalize w.alloc (.cells (regsC g) 24) = W0 at *
  have hsW0 := hb.size
  refine list_make 4 (pT W0.heap.size 0) rfl (wantedN rfl) (heAlloc rfl (allocCy W0)) ?_
  have r0 := r0.alloc (.cells (cyC zeroCy) 29)
  have r1 := Row.new W0 29 (cyC zeroCy)
  have hb := Below.alloc hb (by have := hb.size; omega) (.cells (cyC zeroCy) 29)
  obtain ⟨L1, hL1⟩ : ∃ L, L = W0.heap.size := ⟨_, rfl⟩
  have q1 : w.heap.size ≤ L1 ∧ L0 < L1 := by rw [hL1]; exact ⟨hsW0, l0⟩
  rw [← hL1] at r1 ⊢
  generalize W0.alloc (.cells (cyC zeroCy) 29) = W1 at *
  have l0 := r0.lt
  have l1 := r1.lt
  have hsW1 := hb.size
  refine list_make 5 (pT W1.heap.size 0) rfl (wantedN rfl) (heAlloc rfl (allocRg W1)) ?_
  have r0 := r0.alloc (.cells (regsC zeroRg) 24)
  have r1 := r1.alloc (.cells (regsC zeroRg) 24)
  have r2 := Row.new W1 24 (regsC zeroRg)
  have hb := Below.alloc hb (by have := hb.size; omega) (.cells (regsC zeroRg) 24)
  obtain ⟨L2, hL2⟩ : ∃ L, L = W1.heap.size := ⟨_, rfl⟩
  have q2 : w.heap.size ≤ L2 ∧ L0 < L2 ∧ L1 < L2 := by rw [hL2]; exact ⟨hsW1, l0, l1⟩
  rw [← hL2] at r2 ⊢
  generalize W1.alloc (.cells (regsC zeroRg) 24) = W2 at *
  have l0 := r0.lt
  have l1 := r1.lt
  have l2 := r2.lt
  have hsW2 := hb.size
  refine oA 6 (.bool false) ?_
  refine endL ?_
  try simp only [Act.put, sA, sB, sC]
  refine thenN <| hK1 _ _ <| wp_seq_k fun K2 hK2 => regionL <| oL 8 (ldR r0.range) <| oM 9 (.slice A xs.length cap) <| oU 10 (mC (ms0 g) A xs.length cap) ?_
  refine list_make 7 (pT W2.heap.size 0) rfl (wantedN rfl) (heAlloc rfl (allocM W2)) ?_
  have hat := at_new (w := w) (W := W2) (fun b hlt => hb.block b hlt) hb.size hg hc h8 hin ht
  refine list_do rfl (wantedN rfl) (heStore (ad := ⟨W2.heap.size, 0, none⟩) (V := .agg (mC (ms0 g) A xs.length cap)) rfl (by kernel_rfl) (by kernel_rfl) (stM g A xs.length cap)) ?_
  have r0 := (r0.alloc (.cells zeroM 118)).setFar (by omega) (mC (ms0 g) A xs.length cap).toList 0 (b := W2.heap.size)
  have r1 := (r1.alloc (.cells zeroM 118)).setFar (by omega) (mC (ms0 g) A xs.length cap).toList 0 (b := W2.heap.size)
  have r2 := (r2.alloc (.cells zeroM 118)).setFar (by omega) (mC (ms0 g) A xs.length cap).toList 0 (b := W2.heap.size)
  have hb := Below.setCellsAll (Below.alloc hb (by have := hb.size; omega) (.cells zeroM 118)) (b := W2.heap.size) (by have := hb.size; omega) (mC (ms0 g) A xs.length cap).toList 0
  obtain ⟨p, hp⟩ : ∃ p, p = W2.heap.size := ⟨_, rfl⟩
  have qp : w.heap.size ≤ p ∧ L0 < p ∧ L1 < p ∧ L2 < p := by rw [hp]; exact ⟨hsW2, l0, l1, l2⟩
  rw [← hp] at hat ⊢
  rw [← hp] at r0 r1 r2 hb
  generalize (W2.alloc (.cells zeroM 118)).setCells p 0 (mC (ms0 g) A xs.length cap).toList = W at *
  refine endL ?_
  try simp only [Act.put, sA, sB, sC]
  refine thenN <| hK2 _ _ <| wp_seq_k fun K3 hK3 => wp_seq_k fun K4 hK4 => regionL <| oF 11 (fR17 L0) <| oL 12 (ldB (r0.cell 17)) ?_
  refine endL ?_
  try simp only [Act.put, sA, sB, sC]
  refine thenN <| hK4 _ _ ?_
  refine wp_cond_split (t := g.halted) (by kernel_rfl) (fun hh => ?_) (fun hh => ?_)
  · skip
    have e : nextOf g xs = ((glanceN (ms0 g)).bind fun b => .done b.2).run xs := by rw [nextOf, if_pos hh]
    rw [e]
    refine wp_seq_k fun K5 hK5 => regionL ?_
    refine list_take 13 (.func (.func 71) #[] #[pT p 0]) rfl (wantedN rfl) (heFunc rfl (by kernel_rfl) (by kernel_rfl) _) ?_
    refine oC (tellV (((glanceN (ms0 g)).bind fun b => .done b.2).run xs)) (m_run 71 #[pT p 0] (fun _ => by kernel_rfl) hat (fun w' h' _ => m_glance1 h')) ?_
    intro W' hbes
    have r0 := r0.besides hbes (by omega) (by omega)
    have r1 := r1.besides hbes (by omega) (by omega)
    have r2 := r2.besides hbes (by omega) (by omega)
    have hb := hb.trans (hbes.below (by omega) (by omega) hb.size)
    rw [tellV_eq]
    generalize hX : ((glanceN (ms0 g)).bind fun b => .done b.2).run xs = X at *
    refine oX 15 #[cyV (cyOf X), regsV (rgOf X), .bool (doneOf X)] (cyV (cyOf X)) <| oX 16 #[cyV (cyOf X), regsV (rgOf X), .bool (doneOf X)] (regsV (rgOf X)) <| oX 17 #[cyV (cyOf X), regsV (rgOf X), .bool (doneOf X)] (.bool (doneOf X)) <| oS ⟨L1, 0, none⟩ (cyV (cyOf X)) (stCy r1) ?_
    have r1' : Row (W'.setCells L1 0 (cyC (cyOf X)).toList) L1 29 (cyC (cyOf X)) := r1.setAll rfl
    have r2' := r2.setFar (by omega : L2 ≠ L1) (cyC (cyOf X)).toList 0
    have hb := Below.setCellsAll hb (b := L1) (by omega) (cyC (cyOf X)).toList 0
    refine oS ⟨L2, 0, none⟩ (regsV (rgOf X)) (stRow r2') ?_
    have r1' := r1'.setFar (by omega : L1 ≠ L2) (regsC (rgOf X)).toList 0
    have r2' : Row ((W'.setCells L1 0 (cyC (cyOf X)).toList).setCells L2 0 (regsC (rgOf X)).toList) L2 24 (regsC (rgOf X)) := r2'.setAll rfl
    have hb := Below.setCellsAll hb (b := L2) (by omega) (regsC (rgOf X)).toList 0
    refine oA 6 (.bool (doneOf X)) ?_
    refine endL ?_
    try simp only [Act.put, sA, sB, sC]
    refine thenN <| hK5 _ _ ?_
    refine wp_ret ?_
    refine thenR ?_
    exact bodyPost_ret (results_told rfl (by kernel_rfl) (by kernel_rfl) (by kernel_rfl) r1' r2') rfl ⟨by first | rfl | (rw [tellV_eq]; done) | (rw [e, tellV_eq]; done), hb⟩
  · skip
    have e : nextOf g xs = nextX (ms0 g) xs := by rw [nextOf, if_neg (by rw [hh]; decide)]
    rw [e]
    refine wp_skip ?_
    refine thenN <| hK3 _ _ ?_
    rw [e]
    refine wp_seq_k fun K5 hK5 => regionL ?_
    refine list_take 18 (.func (.func 73) #[] #[pT p 0]) rfl (wantedN rfl) (heFunc rfl (by kernel_rfl) (by kernel_rfl) _) ?_
    refine oC (tellV (nextX (ms0 g) xs)) (m_run 73 #[pT p 0] (fun _ => by kernel_rfl) hat (fun w' h' _ => m_whole h')) ?_
    intro W' hbes
    have r0 := r0.besides hbes (by omega) (by omega)
    have r1 := r1.besides hbes (by omega) (by omega)
    have r2 := r2.besides hbes (by omega) (by omega)
    have hb := hb.trans (hbes.below (by omega) (by omega) hb.size)
    rw [tellV_eq]
    generalize hX : nextX (ms0 g) xs = X at *
    refine oX 20 #[cyV (cyOf X), regsV (rgOf X), .bool (doneOf X)] (cyV (cyOf X)) <| oX 21 #[cyV (cyOf X), regsV (rgOf X), .bool (doneOf X)] (regsV (rgOf X)) <| oX 22 #[cyV (cyOf X), regsV (rgOf X), .bool (doneOf X)] (.bool (doneOf X)) <| oS ⟨L1, 0, none⟩ (cyV (cyOf X)) (stCy r1) ?_
    have r1' : Row (W'.setCells L1 0 (cyC (cyOf X)).toList) L1 29 (cyC (cyOf X)) := r1.setAll rfl
    have r2' := r2.setFar (by omega : L2 ≠ L1) (cyC (cyOf X)).toList 0
    have hb := Below.setCellsAll hb (b := L1) (by omega) (cyC (cyOf X)).toList 0
    refine oS ⟨L2, 0, none⟩ (regsV (rgOf X)) (stRow r2') ?_
    have r1' := r1'.setFar (by omega : L1 ≠ L2) (regsC (rgOf X)).toList 0
    have r2' : Row ((W'.setCells L1 0 (cyC (cyOf X)).toList).setCells L2 0 (regsC (rgOf X)).toList) L2 24 (regsC (rgOf X)) := r2'.setAll rfl
    have hb := Below.setCellsAll hb (b := L2) (by omega) (regsC (rgOf X)).toList 0
    refine oA 6 (.bool (doneOf X)) ?_
    refine endL ?_
    try simp only [Act.put, sA, sB, sC]
    refine thenN <| hK5 _ _ ?_
    refine wp_ret ?_
    exact bodyPost_ret (results_told rfl (by kernel_rfl) (by kernel_rfl) (by kernel_rfl) r1' r2') rfl ⟨by first | rfl | (rw [tellV_eq]; done) | (rw [e, tellV_eq]; done), hb⟩
theorem nafter_any (g : Rg) (hg : RgB g) (c : Int) (hcb : B8 c) (A : Option Addr) (cap : Nat) (xs : List Int) (hc : xs.length ≤ cap) (h8 : Bytes8 xs) (w : World) (hin : BytesIn w w.heap.size A xs) (ht : Tabs w w.heap.size) :
    Calls Tryz.prog 96 #[regsV g, .int .u8 c, .slice A xs.length cap] w (fun e w' => e = .returned (tellV (afterOf g c xs)) ∧ Below w.heap.size w w') := by
  go_enter Tryz.func96, Tryz.ntmps96
  refine wp_seq_k fun K1 hK1 => regionL ?_
  refine list_make 3 (pT w.heap.size 0) rfl (wantedN rfl) (heBox rfl (by kernel_rfl) (boxRg g w)) ?_
  have r0 := Row.new w 24 (regsC g)
  have hb := Below.alloc (Below.refl w.heap.size w) (Nat.le_refl _) (.cells (regsC g) 24)
  obtain ⟨L0, hL0⟩ : ∃ L, L = w.heap.size := ⟨_, rfl⟩
  rw [← hL0] at r0 ⊢
  have l0 := r0.lt
  generalize w.alloc (.cells (regsC g) 24) = W0 at *
  have hsW0 := hb.size
  refine list_make 4 (pT W0.heap.size 0) rfl (wantedN rfl) (heBox rfl (by kernel_rfl) (box8 c W0)) ?_
  have r0 := r0.alloc (.cells #[.int .u8 c] 5)
  have r1 := Row.new W0 5 #[.int .u8 c]
  have hb := Below.alloc hb (by have := hb.size; omega) (.cells #[.int .u8 c] 5)
  obtain ⟨L1, hL1⟩ : ∃ L, L = W0.heap.size := ⟨_, rfl⟩
  have q1 : w.heap.size ≤ L1 ∧ L0 < L1 := by rw [hL1]; exact ⟨hsW0, l0⟩
  rw [← hL1] at r1 ⊢
  generalize W0.alloc (.cells #[.int .u8 c] 5) = W1 at *
  have l0 := r0.lt
  have l1 := r1.lt
  have hsW1 := hb.size
  refine list_make 6 (pT W1.heap.size 0) rfl (wantedN rfl) (heAlloc rfl (allocCy W1)) ?_
  have r0 := r0.alloc (.cells (cyC zeroCy) 29)
  have r1 := r1.alloc (.cells (cyC zeroCy) 29)
  have r2 := Row.new W1 29 (cyC zeroCy)
  have hb := Below.alloc hb (by have := hb.size; omega) (.cells (cyC zeroCy) 29)
  obtain ⟨L2, hL2⟩ : ∃ L, L = W1.heap.size := ⟨_, rfl⟩
  have q2 : w.heap.size ≤ L2 ∧ L0 < L2 ∧ L1 < L2 := by rw [hL2]; exact ⟨hsW1, l0, l1⟩
  rw [← hL2] at r2 ⊢
  generalize W1.alloc (.cells (cyC zeroCy) 29) = W2 at *
  have l0 := r0.lt
  have l1 := r1.lt
  have l2 := r2.lt
  have hsW2 := hb.size
  refine list_make 7 (pT W2.heap.size 0) rfl (wantedN rfl) (heAlloc rfl (allocRg W2)) ?_
  have r0 := r0.alloc (.cells (regsC zeroRg) 24)
  have r1 := r1.alloc (.cells (regsC zeroRg) 24)
  have r2 := r2.alloc (.cells (regsC zeroRg) 24)
  have r3 := Row.new W2 24 (regsC zeroRg)
  have hb := Below.alloc hb (by have := hb.size; omega) (.cells (regsC zeroRg) 24)
  obtain ⟨L3, hL3⟩ : ∃ L, L = W2.heap.size := ⟨_, rfl⟩
  have q3 : w.heap.size ≤ L3 ∧ L0 < L3 ∧ L1 < L3 ∧ L2 < L3 := by rw [hL3]; exact ⟨hsW2, l0, l1, l2⟩
  rw [← hL3] at r3 ⊢
  generalize W2.alloc (.cells (regsC zeroRg) 24) = W3 at *
  have l0 := r0.lt
  have l1 := r1.lt
  have l2 := r2.lt
  have l3 := r3.lt
  have hsW3 := hb.size
  refine oA 8 (.bool false) ?_
  refine endL ?_
  try simp only [Act.put, sA, sB, sC]
  refine thenN <| hK1 _ _ <| wp_seq_k fun K2 hK2 => regionL <| oL 10 (ldR r0.range) <| oM 11 (.slice A xs.length cap) <| oU 12 (mC (ms0 g) A xs.length cap) ?_
  refine list_make 9 (pT W3.heap.size 0) rfl (wantedN rfl) (heAlloc rfl (allocM W3)) ?_
  have hat := at_new (w := w) (W := W3) (fun b hlt => hb.block b hlt) hb.size hg hc h8 hin ht
  refine list_do rfl (wantedN rfl) (heStore (ad := ⟨W3.heap.size, 0, none⟩) (V := .agg (mC (ms0 g) A xs.length cap)) rfl (by kernel_rfl) (by kernel_rfl) (stM g A xs.length cap)) ?_
  have r0 := (r0.alloc (.cells zeroM 118)).setFar (by omega) (mC (ms0 g) A xs.length cap).toList 0 (b := W3.heap.size)
  have r1 := (r1.alloc (.cells zeroM 118)).setFar (by omega) (mC (ms0 g) A xs.length cap).toList 0 (b := W3.heap.size)
  have r2 := (r2.alloc (.cells zeroM 118)).setFar (by omega) (mC (ms0 g) A xs.length cap).toList 0 (b := W3.heap.size)
  have r3 := (r3.alloc (.cells zeroM 118)).setFar (by omega) (mC (ms0 g) A xs.length cap).toList 0 (b := W3.heap.size)
  have hb := Below.setCellsAll (Below.alloc hb (by have := hb.size; omega) (.cells zeroM 118)) (b := W3.heap.size) (by have := hb.size; omega) (mC (ms0 g) A xs.length cap).toList 0
  obtain ⟨p, hp⟩ : ∃ p, p = W3.heap.size := ⟨_, rfl⟩
  have qp : w.heap.size ≤ p ∧ L0 < p ∧ L1 < p ∧ L2 < p ∧ L3 < p := by rw [hp]; exact ⟨hsW3, l0, l1, l2, l3⟩
  rw [← hp] at hat ⊢
  rw [← hp] at r0 r1 r2 r3 hb
  generalize (W3.alloc (.cells zeroM 118)).setCells p 0 (mC (ms0 g) A xs.length cap).toList = W at *
  refine endL ?_
  try simp only [Act.put, sA, sB, sC]
  refine thenN <| hK2 _ _ <| wp_seq_k fun K3 hK3 => regionL ?_
  refine list_take 13 (.func (.func 143) #[] #[pT p 0, pT L1 0]) rfl (wantedN rfl) (heFunc rfl (by kernel_rfl) (by kernel_rfl) _) ?_
  refine oC (tellV (afterOf g c xs)) (m_run 143 #[pT p 0, pT L1 0] (fun _ => by kernel_rfl) hat (fun w' h' hbw => m_after1 c hcb h' (r1.below hbw r1.lt))) ?_
  intro W' hbes
  have r0 := r0.besides hbes (by omega) (by omega)
  have r1 := r1.besides hbes (by omega) (by omega)
  have r2 := r2.besides hbes (by omega) (by omega)
  have r3 := r3.besides hbes (by omega) (by omega)
  have hb := hb.trans (hbes.below (by omega) (by omega) hb.size)
  rw [tellV_eq]
  generalize hX : afterOf g c xs = X at *
  refine oX 15 #[cyV (cyOf X), regsV (rgOf X), .bool (doneOf X)] (cyV (cyOf X)) <| oX 16 #[cyV (cyOf X), regsV (rgOf X), .bool (doneOf X)] (regsV (rgOf X)) <| oX 17 #[cyV (cyOf X), regsV (rgOf X), .bool (doneOf X)] (.bool (doneOf X)) <| oS ⟨L2, 0, none⟩ (cyV (cyOf X)) (stCy r2) ?_
  have r2' : Row (W'.setCells L2 0 (cyC (cyOf X)).toList) L2 29 (cyC (cyOf X)) := r2.setAll rfl
  have r3' := r3.setFar (by omega : L3 ≠ L2) (cyC (cyOf X)).toList 0
  have hb := Below.setCellsAll hb (b := L2) (by omega) (cyC (cyOf X)).toList 0
  refine oS ⟨L3, 0, none⟩ (regsV (rgOf X)) (stRow r3') ?_
  have r2' := r2'.setFar (by omega : L2 ≠ L3) (regsC (rgOf X)).toList 0
  have r3' : Row ((W'.setCells L2 0 (cyC (cyOf X)).toList).setCells L3 0 (regsC (rgOf X)).toList) L3 24 (regsC (rgOf X)) := r3'.setAll rfl
  have hb := Below.setCellsAll hb (b := L3) (by omega) (regsC (rgOf X)).toList 0
  refine oA 8 (.bool (doneOf X)) ?_
  refine endL ?_
  try simp only [Act.put, sA, sB, sC]
  refine thenN <| hK3 _ _ ?_
  refine wp_ret ?_
  exact bodyPost_ret (results_told rfl (by kernel_rfl) (by kernel_rfl) (by kernel_rfl) r2' r3') rfl ⟨by first | rfl | (rw [tellV_eq]; done) | (rw [e, tellV_eq]; done), hb⟩
def g5 : Rg := { zeroRg with pc := 5 }
def Tr.Depth {α : Type} : Tr α → Nat → Prop
  | .done _, _ => True
  | .ask _ _, 0 => False
  | .ask _ k, d + 1 => ∀ b, (k b).Depth d
theorem Tr.depth_done {α : Type} (a : α) (d : Nat) : (Tr.done a).Depth d := by cases d <;> exact trivial
theorem Tr.Depth.mono {α : Type} {t : Tr α} : ∀ {m n : Nat}, t.Depth m → m ≤ n → t.Depth n := by
  induction t with
  | done a => intro m n _ _; exact Tr.depth_done _ _
  | ask c k ih =>
    intro m n h hmn
    cases m with
    | zero => exact h.elim
    | succ m =>
      cases n with
      | zero => omega
      | succ n => exact fun b => ih b (h b) (by omega)
theorem Tr.Depth.bind {α β : Type} {t : Tr α} {f : α → Tr β} : ∀ {m n : Nat}, t.Depth m → (∀ a, (f a).Depth n) → (t.bind f).Depth (m + n) := by
  induction t with
  | done a => intro m n _ hf; exact (hf a).mono (by omega)
  | ask c k ih =>
    intro m n h hf
    cases m with
    | zero => exact h.elim
    | succ m =>
      rw [show m + 1 + n = (m + n) + 1 by omega]
      exact fun b => ih b (h b) hf
def CyK (c : Cy) : Prop := 1 ≤ c.kind ∧ c.kind ≤ 7 ∧ c.kind ≠ 6 ∧ 1 ≤ c.t ∧ c.t ≤ 7 ∧ (c.kind ≠ 3 → c.kind ≠ 5 → c.data = 0) ∧ (c.kind ≠ 7 → (c.kind = 4 ∨ c.kind = 5 → 3 < c.t) ∧ 2 < c.t)
def Tr.Deaf {α : Type} : Tr α → Prop
  | .done _ => True
  | .ask c k => CyK c ∧ (c.kind = 3 ∨ c.kind = 5 ∨ c.kind = 7 → ∀ b b', k b = k b') ∧ ∀ b, (k b).Deaf
theorem Tr.Deaf.bind {α β : Type} {t : Tr α} {f : α → Tr β} (h : t.Deaf) (hf : ∀ a, (f a).Deaf) : (t.bind f).Deaf := by
  induction t with
  | done a => exact hf a
  | ask c k ih => exact ⟨h.1, fun hk b b' => by show (k b).bind f = (k b').bind f; rw [h.2.1 hk b b'], fun b => ih b (h.2.2 b)⟩
theorem Tr.Deaf.run {α : Type} {t : Tr α} (h : t.Deaf) : ∀ {xs : List Int} {c : Cy}, t.run xs = .error c → (c.kind = 3 ∨ c.kind = 5 ∨ c.kind = 7) → ∀ b b' zs, t.run (xs ++ b :: zs) = t.run (xs ++ b' :: zs) := by
  induction t with
  | done a => intro xs c e; rw [Tr.run_done] at e; cases e
  | ask c k ih =>
    intro xs c' e hk b b' zs
    cases xs with
    | nil =>
      rw [Tr.run_nil] at e
      injection e with e; subst e
      show (k b).run zs = (k b').run zs
      rw [h.2.1 hk b b']
    | cons x xs => exact ih x (h.2.2 x) e hk b b' zs
theorem Tr.Deaf.error {α : Type} {t : Tr α} (h : t.Deaf) : ∀ {xs : List Int} {c : Cy}, t.run xs = .error c → CyK c := by
  induction t with
  | done a => intro xs c e; rw [Tr.run_done] at e; cases e
  | ask c k ih =>
    intro xs c' e
    cases xs with
    | nil =>
      rw [Tr.run_nil] at e
      injection e with e; subst e
      exact h.1
    | cons x xs => exact ih x (h.2.2 x) e
def posM (xs : List Int) : Nat → Nat
  | 0 => 0
  | k + 1 => posM xs k + lenOf (xs.drop (posM xs k))
def Runs (xs : List Int) (k : Nat) : Prop := ∀ j, j < k → okM (xs.drop (posM xs j)) = true
theorem Runs.zero (xs : List Int) : Runs xs 0 := fun j hj => by omega
theorem Runs.succ {xs : List Int} {k : Nat} (h : Runs xs k) (o : okM (xs.drop (posM xs k)) = true) : Runs xs (k + 1) := fun j hj => by
  by_cases e : j = k
  · subst e; exact o
  · exact h j (by omega)
theorem ok_len {ys : List Int} (h : okM ys = true) : lenOf ys ≤ ys.length := by
  unfold okM at h
  exact of_decide_eq_true h
theorem Runs.pos {xs : List Int} {k : Nat} (h : Runs xs k) : k ≤ posM xs k ∧ posM xs k ≤ xs.length := by
  induction k with
  | zero => exact ⟨Nat.le_refl _, Nat.zero_le _⟩
  | succ k ih =>
    have h1 := ih (fun j hj => h j (by omega))
    have h2 := ok_len (h k (by omega))
    have h3 := lead_lt_len (xs.drop (posM xs k))
    rw [List.length_drop] at h2
    show k + 1 ≤ posM xs k + lenOf (xs.drop (posM xs k)) ∧ posM xs k + lenOf (xs.drop (posM xs k)) ≤ xs.length
    omega
theorem Bytes8.drop {xs : List Int} (h : Bytes8 xs) (k : Nat) : Bytes8 (xs.drop k) := fun x hx => h x (List.mem_of_mem_drop hx)
theorem Bytes8.take {xs : List Int} (h : Bytes8 xs) (k : Nat) : Bytes8 (xs.take k) := fun x hx => h x (List.mem_of_mem_take hx)
theorem Bytes8.append {xs ys : List Int} (h : Bytes8 xs) (h' : Bytes8 ys) : Bytes8 (xs ++ ys) := fun x hx => by
  rcases List.mem_append.1 hx with e | e
  · exact h x e
  · exact h' x e
def ms1 (g : Rg) : Ms := (({ ms0 g with r := tickG g 1 } : Ms).pcUp).noLate
theorem next_nil (g : Rg) : nextOf g [] = .error ⟨1, g.pc, 0, 4⟩ := by unfold nextOf; split <;> rfl
theorem next_halt {g : Rg} (h : g.halted = true) (b : Int) (bs : List Int) : nextOf g (b :: bs) = .ok ({ ms0 g with r := tickG g 1 }, bs) := by unfold nextOf; rw [if_pos h]; exact Tr.run_done _ _
theorem next_cons {g : Rg} (h : g.halted = false) (b : Int) (bs : List Int) : nextOf g (b :: bs) = execN bs b (ms1 g) := by unfold nextOf; rw [if_neg (by rw [h]; simp)]; rfl
def whichM (g : Rg) (nmi irq : Bool) : Int := if nmi then 1 else if irq && (g.iff1 && !g.late) then 2 else 0
structure T3 where
  c : Cy
  g : Rg
  b : Bool
def askT (c : Cy) : T3 := ⟨c, zeroRg, false⟩
def endT (g : Rg) : T3 := ⟨zeroCy, g, true⟩
def ofX (X : Except Cy (Ms × List Int)) : T3 := ⟨cyOf X, rgOf X, doneOf X⟩
def pushL (sp pc : Int) : List Cy := [⟨7, 0, 0, 1⟩, ⟨3, (sp - 1) % 65536, pc / 256, 3⟩, ⟨3, (sp - 2) % 65536, pc % 256, 3⟩]
def tableL (at_ : Int) : List Cy := [⟨2, at_, 0, 3⟩, ⟨2, (at_ + 1) % 65536, 0, 3⟩]
def toldT (l : List Cy) (g : Rg) (n : Nat) : T3 := if n < l.length then askT (l.getD n zeroCy) else endT g
def begG (g : Rg) (iff1 iff2 : Bool) : Rg := { tickG g 1 with halted := false, late := false, iff1 := iff1, iff2 := iff2 }
def jumpG (g : Rg) (aim : Int) : Rg := { g with sp := (g.sp - 2) % 65536, pc := aim, wz := aim }
def prefixed (v : Int) : Bool := v == 203 || (v == 221 || (v == 237 || v == 253))
def irqT (g : Rg) (v : Int) (xs : List Int) : T3 :=
  if g.mode = 0 then (if prefixed v = true then endT (begG g false false) else ofX (afterOf (begG g false false) v xs)) else
  if g.mode = 1 then toldT (pushL g.sp g.pc) (jumpG (begG g false false) 56) xs.length else
  toldT (pushL g.sp g.pc ++ tableL (256 * g.i + v)) (jumpG (begG g false false) (256 * xs.getD 4 0 + xs.getD 3 0)) xs.length
def accOf (g : Rg) (which : Int) (xs : List Int) : T3 :=
  if which = 1 then (match xs with | [] => askT ⟨1, g.pc, 0, 4⟩ | _ :: ys => toldT (pushL g.sp g.pc) (jumpG (begG g false g.iff2) 102) ys.length) else
  if which = 2 then (match xs with | [] => askT ⟨6, g.pc, 0, 6⟩ | v :: ys => irqT g v ys) else ofX (nextOf g xs)
theorem RgB.beg {g : Rg} (h : RgB g) (i j : Bool) : RgB (begG g i j) := by
  have ht := h.tick 1
  exact ⟨ht.af, ht.bc, ht.de, ht.hl, ht.af2, ht.bc2, ht.de2, ht.hl2, ht.ix, ht.iy, ht.sp, ht.pc, ht.wz, ht.i, ht.r, ht.mode⟩
def getC (l : List (Int × Int)) (a : Int) : Int := l.foldl (fun b c => if c.1 = a then c.2 else b) 0
def insS (x : Int × Int) : List (Int × Int) → List (Int × Int)
  | [] => [x]
  | y :: r => if x.1 < y.1 then x :: y :: r else y :: insS x r
def delS (a : Int) (m : List (Int × Int)) : List (Int × Int) := m.filter fun p => !decide (p.1 = a)
def putS (a b : Int) (m : List (Int × Int)) : List (Int × Int) := insS (a, b) (delS a m)
def stepS (m : List (Int × Int)) (c : Int × Int) : List (Int × Int) := if c.2 = 0 then delS c.1 m else putS c.1 c.2 m
def mkS (l : List (Int × Int)) : List (Int × Int) := l.foldl stepS []
def Srt (m : List (Int × Int)) : Prop := m.Pairwise fun x y => x.1 < y.1
def Cells16 (l : List (Int × Int)) : Prop := ∀ c ∈ l, 0 ≤ c.1 ∧ c.1 ≤ 65535 ∧ 0 ≤ c.2 ∧ c.2 ≤ 255
def NoZero (m : List (Int × Int)) : Prop := ∀ c ∈ m, c.2 ≠ 0
theorem mem_insS {x p : Int × Int} : ∀ {m : List (Int × Int)}, p ∈ insS x m ↔ p = x ∨ p ∈ m
  | [] => by simp [insS]
  | y :: r => by
    unfold insS
    split
    · simp
    · simp only [List.mem_cons, mem_insS (m := r)]
      constructor
      · rintro (h | h | h)
        · exact .inr (.inl h)
        · exact .inl h
        · exact .inr (.inr h)
      · rintro (h | h | h)
        · exact .inr (.inl h)
        · exact .inl h
        · exact .inr (.inr h)
theorem mem_delS {a : Int} {m : List (Int × Int)} {p : Int × Int} : p ∈ delS a m ↔ p ∈ m ∧ p.1 ≠ a := by
  unfold delS
  rw [List.mem_filter]
  simp
theorem mem_putS {a b : Int} {m : List (Int × Int)} {p : Int × Int} : p ∈ putS a b m ↔ p = (a, b) ∨ (p ∈ m ∧ p.1 ≠ a) := by
  unfold putS
  rw [mem_insS, mem_delS]
theorem srt_insS {x : Int × Int} : ∀ {m : List (Int × Int)}, Srt m → (∀ p ∈ m, p.1 ≠ x.1) → Srt (insS x m)
  | [], _, _ => by simp [insS, Srt]
  | y :: r, h, hn => by
    obtain ⟨h1, h2⟩ := List.pairwise_cons.1 h
    unfold insS
    split
    · rename_i hb
      refine List.pairwise_cons.2 ⟨fun q hq => ?_, h⟩
      rcases List.mem_cons.1 hq with rfl | hq
      · exact hb
      · exact Int.lt_trans hb (h1 q hq)
    · rename_i hb
      have hyx : y.1 < x.1 := by have := hn y (by simp); omega
      refine List.pairwise_cons.2 ⟨fun q hq => ?_, srt_insS h2 fun p hp => hn p (by simp [hp])⟩
      rcases mem_insS.1 hq with rfl | hq
      · exact hyx
      · exact h1 q hq
theorem srt_delS {a : Int} {m : List (Int × Int)} (h : Srt m) : Srt (delS a m) := h.filter _
theorem srt_putS {a b : Int} {m : List (Int × Int)} (h : Srt m) : Srt (putS a b m) := srt_insS (srt_delS h) fun p hp => (mem_delS.1 hp).2
theorem srt_stepS {m : List (Int × Int)} (h : Srt m) (c : Int × Int) : Srt (stepS m c) := by
  unfold stepS
  split
  · exact srt_delS h
  · exact srt_putS h
theorem srt_foldl : ∀ (l : List (Int × Int)) {m : List (Int × Int)}, Srt m → Srt (l.foldl stepS m)
  | [], _, h => h
  | c :: r, _, h => srt_foldl r (srt_stepS h c)
theorem srt_mkS (l : List (Int × Int)) : Srt (mkS l) := srt_foldl l List.Pairwise.nil
theorem nz_stepS {m : List (Int × Int)} (h : NoZero m) (c : Int × Int) : NoZero (stepS m c) := by
  unfold stepS
  split
  · exact fun p hp => h p (mem_delS.1 hp).1
  · rename_i hc
    intro p hp
    rcases mem_putS.1 hp with rfl | hp
    · exact hc
    · exact h p hp.1
theorem nz_foldl : ∀ (l : List (Int × Int)) {m : List (Int × Int)}, NoZero m → NoZero (l.foldl stepS m)
  | [], _, h => h
  | c :: r, _, h => nz_foldl r (nz_stepS h c)
theorem nz_mkS (l : List (Int × Int)) : NoZero (mkS l) := nz_foldl l fun _ h => by cases h
theorem eq_of_mem : ∀ {l m : List (Int × Int)}, Srt l → Srt m → (∀ p, p ∈ l ↔ p ∈ m) → l = m
  | [], [], _, _, _ => rfl
  | [], b :: s, _, _, h => by have := (h b).2 (by simp); simp at this
  | a :: r, [], _, _, h => by have := (h a).1 (by simp); simp at this
  | a :: r, b :: s, h1, h2, h => by
    obtain ⟨a1, a2⟩ := List.pairwise_cons.1 h1
    obtain ⟨b1, b2⟩ := List.pairwise_cons.1 h2
    have hab : a = b := by
      rcases List.mem_cons.1 ((h a).1 (by simp)) with e | ha
      · exact e
      · rcases List.mem_cons.1 ((h b).2 (by simp)) with e | hb
        · exact e.symm
        · have := a1 b hb; have := b1 a ha; omega
    subst hab
    rw [eq_of_mem a2 b2 fun p => ⟨fun hp => by
      rcases List.mem_cons.1 ((h p).1 (by simp [hp])) with e | hp'
      · have := a1 p hp; rw [e] at this; omega
      · exact hp', fun hp => by
      rcases List.mem_cons.1 ((h p).2 (by simp [hp])) with e | hp'
      · have := b1 p hp; rw [e] at this; omega
      · exact hp'⟩]
theorem srt_one {m : List (Int × Int)} (h : Srt m) : ∀ {p q : Int × Int}, p ∈ m → q ∈ m → p.1 = q.1 → p = q := by
  induction m with
  | nil => intro p q hp; cases hp
  | cons a r ih =>
    obtain ⟨a1, a2⟩ := List.pairwise_cons.1 h
    intro p q hp hq e
    rcases List.mem_cons.1 hp with e1 | hp' <;> rcases List.mem_cons.1 hq with e2 | hq'
    · rw [e1, e2]
    · have := a1 q hq'; rw [e1] at e; omega
    · have := a1 p hp'; rw [e2] at e; omega
    · exact ih a2 hp' hq' e
theorem getC_snoc (l : List (Int × Int)) (c : Int × Int) (a : Int) : getC (l ++ [c]) a = if c.1 = a then c.2 else getC l a := by unfold getC; rw [List.foldl_append]; rfl
theorem mkS_snoc (l : List (Int × Int)) (c : Int × Int) : mkS (l ++ [c]) = stepS (mkS l) c := by unfold mkS; rw [List.foldl_append]; rfl
theorem mem_mkS (l : List (Int × Int)) : ∀ p : Int × Int, p ∈ mkS l ↔ getC l p.1 = p.2 ∧ p.2 ≠ 0 := by
  have key : ∀ (n : Nat) (l : List (Int × Int)), l.length = n → ∀ p : Int × Int, p ∈ mkS l ↔ getC l p.1 = p.2 ∧ p.2 ≠ 0 := by
    intro n
    induction n with
    | zero =>
      intro l hl p
      obtain rfl := List.eq_nil_of_length_eq_zero hl
      constructor
      · intro h; cases h
      · rintro ⟨h1, h2⟩; exact absurd h1.symm h2
    | succ n ih =>
      intro l hl p
      obtain ⟨l', c, rfl⟩ : ∃ l' c, l = l' ++ [c] := ⟨l.dropLast, l.getLast (by intro h; rw [h] at hl; cases hl), (List.dropLast_concat_getLast _).symm⟩
      have ih := ih l' (by simpa using hl)
      rw [mkS_snoc, getC_snoc]
      unfold stepS
      by_cases hc : c.1 = p.1
      · rw [if_pos hc]
        split
        · rename_i h0
          rw [mem_delS]
          constructor
          · rintro ⟨-, h⟩; exact absurd hc.symm h
          · rintro ⟨h1, h2⟩; exact absurd (h1.symm.trans h0) h2
        · rename_i h0
          rw [mem_putS]
          constructor
          · rintro (rfl | ⟨-, h⟩)
            · exact ⟨rfl, h0⟩
            · exact absurd hc.symm h
          · rintro ⟨h1, h2⟩
            exact .inl (Prod.ext hc.symm h1.symm)
      · rw [if_neg hc]
        have hne : p.1 ≠ c.1 := fun e => hc e.symm
        split
        · rw [mem_delS, ih]
          exact ⟨fun h => h.1, fun h => ⟨h, hne⟩⟩
        · rw [mem_putS, ih]
          constructor
          · rintro (rfl | h)
            · exact absurd rfl hc
            · exact h.1
          · exact fun h => .inr ⟨h, hne⟩
  exact key _ l rfl
theorem getC_mem (l : List (Int × Int)) (a : Int) (h : getC l a ≠ 0) : ∃ c ∈ l, c.1 = a := by
  have key : ∀ (n : Nat) (l : List (Int × Int)), l.length = n → getC l a ≠ 0 → ∃ c ∈ l, c.1 = a := by
    intro n
    induction n with
    | zero =>
      intro l hl h
      obtain rfl := List.eq_nil_of_length_eq_zero hl
      exact absurd rfl h
    | succ n ih =>
      intro l hl h
      obtain ⟨l', c, rfl⟩ : ∃ l' c, l = l' ++ [c] := ⟨l.dropLast, l.getLast (by intro h; rw [h] at hl; cases hl), (List.dropLast_concat_getLast _).symm⟩
      rw [getC_snoc] at h
      split at h
      · rename_i e; exact ⟨c, by simp, e⟩
      · obtain ⟨d, hd, e⟩ := ih l' (by simpa using hl) h
        exact ⟨d, by simp [hd], e⟩
  exact key _ l rfl h
theorem getC_srt {m : List (Int × Int)} (h : Srt m) {p : Int × Int} (hp : p ∈ m) : getC m p.1 = p.2 := by
  have key : ∀ (n : Nat) (m : List (Int × Int)), m.length = n → Srt m → p ∈ m → getC m p.1 = p.2 := by
    intro n
    induction n with
    | zero =>
      intro m hm _ hp
      obtain rfl := List.eq_nil_of_length_eq_zero hm
      cases hp
    | succ n ih =>
      intro m hm hs hp
      obtain ⟨l', c, rfl⟩ : ∃ l' c, m = l' ++ [c] := ⟨m.dropLast, m.getLast (by intro h; rw [h] at hm; cases hm), (List.dropLast_concat_getLast _).symm⟩
      rw [getC_snoc]
      have hs' := List.pairwise_append.1 hs
      by_cases hc : c.1 = p.1
      · rw [if_pos hc, srt_one hs (p := c) (q := p) (by simp) hp hc]
      · rw [if_neg hc]
        refine ih l' (by simpa using hm) hs'.1 ?_
        rcases List.mem_append.1 hp with h | h
        · exact h
        · simp at h; exact absurd (congrArg Prod.fst h).symm hc
  exact key _ m rfl h hp
theorem mkS_get {l : List (Int × Int)} {m : List (Int × Int)} (h : Srt m) (hn : NoZero m) (hg : ∀ a, getC m a = getC l a) : mkS l = m :=
  eq_of_mem (srt_mkS l) h fun p => by
    rw [mem_mkS, ← hg]
    constructor
    · rintro ⟨h1, h2⟩
      obtain ⟨c, hc, e⟩ := getC_mem m p.1 (by rw [h1]; exact h2)
      have := getC_srt h hc
      rw [e, h1] at this
      have : c = p := Prod.ext e this.symm
      exact this ▸ hc
    · exact fun hp => ⟨getC_srt h hp, hn p hp⟩
theorem getC_mkS (l : List (Int × Int)) (a : Int) : getC (mkS l) a = getC l a := by
  by_cases h : getC l a = 0
  · rw [h]
    by_cases h2 : getC (mkS l) a = 0
    · exact h2
    · obtain ⟨c, hc, rfl⟩ := getC_mem _ _ h2
      exact absurd ((mem_mkS l c).1 hc).1 (by rw [h]; exact fun e => (nz_mkS l c hc) e.symm)
  · exact getC_srt (srt_mkS l) (p := (a, getC l a)) ((mem_mkS l _).2 ⟨rfl, h⟩)
theorem mkS_congr {l l' : List (Int × Int)} (h : ∀ a, getC l a = getC l' a) : mkS l = mkS l' := mkS_get (srt_mkS l') (nz_mkS l') fun a => by rw [getC_mkS, h]
theorem getC_b8 {l : List (Int × Int)} (h : Cells16 l) (a : Int) : 0 ≤ getC l a ∧ getC l a ≤ 255 := by
  have key : ∀ (l : List (Int × Int)) (b : Int), Cells16 l → 0 ≤ b ∧ b ≤ 255 → 0 ≤ l.foldl (fun b c => if c.1 = a then c.2 else b) b ∧ l.foldl (fun b c => if c.1 = a then c.2 else b) b ≤ 255 := by
    intro l
    induction l with
    | nil => intro b _ hb; exact hb
    | cons c r ih =>
      intro b hl hb
      refine ih _ (fun p hp => hl p (by simp [hp])) ?_
      have := hl c (by simp)
      show 0 ≤ (if c.1 = a then c.2 else b) ∧ (if c.1 = a then c.2 else b) ≤ 255
      by_cases e : c.1 = a
      · rw [if_pos e]; exact ⟨this.2.2.1, this.2.2.2⟩
      · rw [if_neg e]; exact hb
  exact key l 0 h ⟨by omega, by omega⟩
theorem c16_append {l m : List (Int × Int)} (h : Cells16 l) (k : Cells16 m) : Cells16 (l ++ m) := fun c hc => (List.mem_append.1 hc).elim (h c) (k c)
structure Sx where
  got : List Int
  m : List (Int × Int)
  p : List Int
  l : List Cy
  n : Int
structure Wd where
  g : Rg
  m : List (Int × Int)
  p : List Int
def ansS (c : Cy) (v : Int) (m : List (Int × Int)) (p : List Int) : Int :=
  if c.kind = 1 ∨ c.kind = 2 then getC m c.addr else if c.kind = 4 then p.headD 255 else if c.kind = 6 then v else 0
def memS (c : Cy) (m : List (Int × Int)) : List (Int × Int) := if c.kind = 3 then m ++ [(c.addr, c.data)] else m
def porS (c : Cy) (p : List Int) : List Int := if c.kind = 4 then p.tail else p
def cycS (c : Cy) (b : Int) : Cy := if c.kind = 3 ∨ c.kind = 5 then c else { c with data := b }
def lisS (c : Cy) (b : Int) (l : List Cy) : List Cy := if c.kind = 7 then l else l ++ [cycS c b]
def nextS (c : Cy) (v : Int) (x : Sx) : Sx := ⟨x.got ++ [ansS c v x.m x.p], memS c x.m, porS c x.p, lisS c (ansS c v x.m x.p) x.l, x.n + c.t⟩
def goS (g : Rg) (which v : Int) : Nat → Sx → Sx
  | 0, x => x
  | k + 1, x => if (accOf g which x.got).b = true then x else goS g which v k (nextS (accOf g which x.got).c v x)
def begS (w : Wd) : Sx := ⟨[], w.m, w.p, [], 0⟩
def stepX (w : Wd) (which v : Int) : Sx := goS w.g which v 200 (begS w)
def endP (g : Rg) (which : Int) (x : Sx) : Rg := if (accOf g which x.got).b = true then (accOf g which x.got).g else g
def pstepW (w : Wd) (which v : Int) : Wd := ⟨endP w.g which (stepX w which v), (stepX w which v).m, (stepX w which v).p⟩
def runW : Nat → Wd → Wd × Int
  | 0, w => (w, 0)
  | k + 1, w => ((runW k (pstepW w 0 0)).1, (stepX w 0 0).n + (runW k (pstepW w 0 0)).2)
def SameM (m m' : List (Int × Int)) : Prop := ∀ a, getC m a = getC m' a
theorem SameM.refl (m : List (Int × Int)) : SameM m m := fun _ => rfl
theorem SameM.symm {m m' : List (Int × Int)} (h : SameM m m') : SameM m' m := fun a => (h a).symm
theorem SameM.trans {a b c : List (Int × Int)} (h : SameM a b) (k : SameM b c) : SameM a c := fun x => (h x).trans (k x)
theorem SameM.snoc {m m' : List (Int × Int)} (h : SameM m m') (c : Int × Int) : SameM (m ++ [c]) (m' ++ [c]) := fun a => by rw [getC_snoc, getC_snoc, h a]
theorem SameM.mk {m m' : List (Int × Int)} (h : SameM m m') : mkS m = mkS m' := mkS_congr h
structure SimW (w u : Wd) : Prop where
  g : w.g = u.g
  m : SameM w.m u.m
  p : w.p = u.p
theorem SimW.refl (w : Wd) : SimW w w := ⟨rfl, .refl _, rfl⟩
end Go.Proofs.YtkenebbjodcbcaaGreatDoor
