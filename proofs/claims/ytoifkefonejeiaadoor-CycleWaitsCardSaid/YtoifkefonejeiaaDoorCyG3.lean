/- Contracts and facts that the claim's proof wants (several texts in one). -/
import Derived.OwnWalkIn
import Derived.OrdersIn
import Derived.RangeFuncIn
import Derived.RangeFuncRecord
import Derived.RangeFuncSeq
import Derived.RangeFuncLeaves
import Derived.RangeFuncCalls
import Derived.RangeFuncOwn
import Derived.WalkKit
import Derived.ArgAppend
import Derived.Laws.OwnMore
import Derived.Test.YtoifkefonejeiaaDoorCyG1
import Derived.Test.YtoifkefonejeiaaDoorCyG2
namespace Go.Proofs.YtoifkefonejeiaaDoor
open Go.RowKit
set_option linter.unusedVariables false
set_option linter.unusedSimpArgs false
set_option maxRecDepth 20000
set_option maxHeartbeats 20000000
structure Free (F : Fence) : Prop where
  fn : ∀ f, F.fn f
  depth : F.depth = none
  calls : ∀ {n : Nat} {P : Program} {f : FuncId} {args : Array Value} {w : World} {R : Ending → World → Prop}, Calls P f args w R → CallsIn F n P f args w R
theorem free_wide : Free Fence.wide := ⟨fun _ => trivial, rfl, fun h => callsIn_wide.2 h⟩
theorem free_round (l : Nat) : Free (Fence.wide.inRound l) := ⟨fun _ => trivial, rfl, fun h => CallsIn.inRound l (callsIn_wide.2 h)⟩
def Qd (ds : List Deferred) (Q : Exit → Act → World → Prop) : Exit → Act → World → Prop := fun e a w => Q e { a with defers := ds } w
def Tame (Q : Exit → Act → World → Prop) : Prop := ∀ a w, ¬ Q .outgrown a w
theorem Tame.thn {Q : Exit → Act → World → Prop} {N : Act → World → Prop} (h : Tame Q) : Tame (Exit.then N Q) := fun a w k => h a w k
theorem Tame.blk {Q : Exit → Act → World → Prop} {i : Nat} (h : Tame Q) : Tame (Exit.inBlock i Q) := fun a w k => h a w k
def mildO (o : Oper) : Bool := match o.op with
  | .move _ | .assign _ | .pick _ _ _ | .alloc _ | .box _ _ | .build _ _ | .buildSlice _ _ _ | .load _ _ | .store _ _ _ | .binOp _ _ _ _ _ | .unOp _ _ _ | .convert _ _ _ | .fieldAddr _ _ _ | .indexAddr _ _ _ | .index _ _ _ | .slice _ _ _ _ _ | .extract _ _ => true
  | .nilCheck _ => true
  | .call c => match c.callee with | .builtin .append | .builtin .len => true | _ => false
  | _ => false
theorem run_val {P : Program} {s : Sem Value} {x : Next} {w w' : World} (h : (do pure (Next.value (← s)) : Sem Next).run P w = .ok x w') : ∃ v, x = .value v := by
  rw [Sem.run_bind] at h
  cases e : s.run P w with
  | ok a w1 =>
    rw [e] at h
    simp only [Result.andThen_ok, Sem.run_pure] at h
    injection h with h1 h2
    exact ⟨a, h1.symm⟩
  | halt a w1 => rw [e] at h; simp [Result.andThen] at h
theorem run_val' {r : Result Value} {x : Next} {w' : World} (h : (r.andThen fun a w' => Result.ok (Next.value a) w') = .ok x w') : ∃ v, x = .value v := by
  cases r with
  | ok a w1 => simp only [Result.andThen_ok] at h; injection h with h1 h2; exact ⟨a, h1.symm⟩
  | halt a w1 => simp [Result.andThen] at h
theorem run_unit {P : Program} {s : Sem Unit} {x : Next} {w w' : World} (h : (do s; pure Next.skip : Sem Next).run P w = .ok x w') : x = .skip := by
  rw [Sem.run_bind] at h
  cases e : s.run P w with
  | ok a w1 =>
    rw [e] at h
    simp only [Result.andThen_ok, Sem.run_pure] at h
    injection h with h1 h2
    exact h1.symm
  | halt a w1 => rw [e] at h; simp [Result.andThen] at h
theorem mild_run {P : Program} {o : Oper} (hm : mildO o = true) {ρ : Operand → Value} {w w' : World} {x : Next} (h : (execOp ρ o).run P w = .ok x w') : (∃ v, x = .value v) ∨ x = .skip := by
  unfold mildO at hm
  unfold execOp at h
  cases ho : o.op with
  | move y | assign y => rw [ho] at h; simp only [Sem.run_pure] at h; injection h with h1 h2; exact .inl ⟨_, h1.symm⟩
  | pick c y z =>
    rw [ho] at h
    simp only [Sem.run_bind] at h
    cases e : (asBool (ρ c)).run P w with
    | ok a w1 => rw [e] at h; simp only [Result.andThen_ok, Sem.run_pure] at h; injection h with h1 h2; exact .inl ⟨_, h1.symm⟩
    | halt a w1 => rw [e] at h; simp [Result.andThen] at h
  | alloc _ | box _ _ | build _ _ | buildSlice _ _ _ | load _ _ | binOp _ _ _ _ _ | unOp _ _ _ | convert _ _ _ | fieldAddr _ _ _ | indexAddr _ _ _ | index _ _ _ | slice _ _ _ _ _ | extract _ _ => rw [ho] at h; exact .inl (run_val h)
  | store _ _ _ => rw [ho] at h; exact .inr (run_unit h)
  | nilCheck y =>
    rw [ho] at h
    simp only at h
    split at h
    · simp [runtimePanic] at h
    · simp [runtimePanic] at h
    · simp [runtimePanic] at h
    · split at h
      · simp [runtimePanic] at h
      · simp only [Sem.run_bind] at h
        refine .inl ?_
        revert h
        generalize (program.run P w) = r1
        cases r1 with
        | halt a w1 => intro h; simp [Result.andThen] at h
        | ok a w1 =>
          simp only [Result.andThen_ok]
          generalize (nilAhead _ _ _ _).run P w1 = r2
          cases r2 with
          | halt a w2 => intro h; simp [Result.andThen] at h
          | ok b w2 =>
            simp only [Result.andThen_ok]
            intro h
            split at h
            · simp [unsupported, Sem.run_bind, Result.andThen] at h
            · simp only [Sem.run_pure, Sem.run_bind, Result.andThen_ok] at h; injection h with h1 h2; exact ⟨_, h1.symm⟩
      · simp only [Sem.run_pure] at h; injection h with h1 h2; exact .inl ⟨_, h1.symm⟩
    · simp only [Sem.run_pure] at h; injection h with h1 h2; exact .inl ⟨_, h1.symm⟩
  | call c =>
    rw [ho] at h hm
    simp only at h hm
    split at hm
    · rename_i hc
      simp only [resolve, hc, Sem.run_bind, Sem.run_pure, Result.andThen_ok, invoke, builtin] at h
      exact .inl (run_val' h)
    · rename_i hc
      simp only [resolve, hc, Sem.run_bind, Sem.run_pure, Result.andThen_ok, invoke, builtin] at h
      exact .inl (run_val' h)
    · cases hm
  | _ => rw [ho] at hm; cases hm
theorem mild_df {F : Fence} {o : Oper} (h : mildO o = true) (ρ : Operand → Value) : o.semAt F.round ρ = execOp ρ o := Oper.semAt_plain F ρ o fun c e => by simp [mildO, e] at h
section
variable {F : Fence} {n : Nat} {ds : List Deferred} {P : Program} {ops : Array Oper} {Q : Exit → Act → World → Prop}
theorem put_ds (a : Act) (d : Option Nat) (v : Value) : ({ a with defers := ds } : Act).put d v = { a.put d v with defers := ds } := by cases d <;> rfl
theorem oper_in (hF : Free F) (hT : Tame Q) {o : Oper} (hm : mildO o = true) {a : Act} {w : World} {K K' : Act → World → Prop} (hK : ∀ a w, K a w → K' { a with defers := ds } w)
    (h : o.wp P a w K (Qd ds Q) ∨ (o.asks P a w ∧ LetsOut (Qd ds Q))) : o.wpIn F n P { a with defers := ds } w K' Q := by
  rcases h with h | ⟨-, a0, w0, h⟩
  · refine ⟨fun f _ => hF.fn f, ?_⟩
    have ev : ({ a with defers := ds } : Act).eval = a.eval := rfl
    rw [mild_df hm, ev]
    unfold Oper.wp at h
    cases e : (execOp a.eval o).run P w with
    | ok x w' =>
      rw [e] at h
      rcases mild_run hm e with ⟨v, rfl⟩ | rfl
      · show K' _ _
        rw [put_ds]
        exact hK _ _ h
      · show K' (Act.put _ _ _) _
        rw [put_ds]
        exact hK _ _ h
    | halt x w' =>
      rw [e] at h
      cases x <;> first | exact h | exact h.elim
  · exact (hT _ _ h).elim
theorem list_in (hF : Free F) (hT : Tame Q) : ∀ (l : List Oper), l.all mildO = true → ∀ (a : Act) (w : World), wpList P ops (Qd ds Q) l a w → wpListIn F n P ops Q l { a with defers := ds } w
  | [], _, a, w, h => h
  | o :: r, hm, a, w, h => by
    simp only [List.all_cons, Bool.and_eq_true] at hm
    unfold wpList at h
    unfold wpListIn
    by_cases hw : Region.wanted o (yielded ops a.tmps) = true
    · rw [if_pos hw] at h
      rw [if_pos (show Region.wanted o (yielded ops ({ a with defers := ds } : Act).tmps) = true from hw)]
      exact oper_in hF hT hm.1 (fun a w h => list_in hF hT r hm.2 a w h) h
    · rw [if_neg hw] at h
      rw [if_neg (show ¬ Region.wanted o (yielded ops ({ a with defers := ds } : Act).tmps) = true from hw)]
      refine ⟨fun f _ => hF.fn f, ?_⟩
      rw [put_ds]
      exact list_in hF hT r hm.2 _ w h
theorem any_in (hF : Free F) (hT : Tame Q) {md : Region.Mode} (hm : ∀ (i : Nat) (o : Oper), ops[i]? = some o → mildO o = true) : ∀ (f : Nat) (listed : Array Bool) (a : Act) (w : World), wpAny P md ops (Qd ds Q) f listed a w → wpAnyIn F n P md ops Q f listed { a with defers := ds } w
  | 0, listed, a, w, h => h
  | f + 1, listed, a, w, h => by
    refine ⟨fun e => h.1 e, fun i hi => ?_⟩
    have h2 := h.2 i hi
    unfold wpOp at h2
    unfold wpOpIn
    cases ho : ops[i]? with
    | none => rw [ho] at h2; exact any_in hF hT hm f _ a w h2
    | some o =>
      rw [ho] at h2
      dsimp only at h2 ⊢
      by_cases hw : Region.wanted o (yielded ops a.tmps) = true
      · rw [if_pos hw] at h2
        rw [if_pos (show Region.wanted o (yielded ops ({ a with defers := ds } : Act).tmps) = true from hw)]
        exact oper_in hF hT (hm i o ho) (fun a w h => any_in hF hT hm f _ a w h) h2
      · rw [if_neg hw] at h2
        rw [if_neg (show ¬ Region.wanted o (yielded ops ({ a with defers := ds } : Act).tmps) = true from hw)]
        refine ⟨fun f _ => hF.fn f, ?_⟩
        rw [put_ds]
        exact any_in hF hT hm f _ _ w h2
end
def actI (ds : List Deferred) (base : List Value) (l : Slots) : Act := ⟨(ovO base l).toArray, ds⟩
structure WI (F : Fence) (n : Nat) (ds : List Deferred) (P : Program) (ops : Array Oper) (Q : Exit → Act → World → Prop) (base : List Value) (rest : List Oper) (l : Slots) (w : World) : Prop where
  h : inO base.length l → wpListIn F n P ops Q rest (actI ds base l) w
structure CI (F : Fence) (n : Nat) (ds : List Deferred) (P : Program) (c : Code) (Q : Exit → Act → World → Prop) (base : List Value) (l : Slots) (w : World) : Prop where
  h : inO base.length l → c.wpIn F n P Q (actI ds base l) w
structure EI (ds : List Deferred) (Q : Exit → Act → World → Prop) (e : Exit) (base : List Value) (l : Slots) (w : World) : Prop where
  h : inO base.length l → Q e (actI ds base l) w
theorem evI_eq (ds : List Deferred) {base : List Value} {l : Slots} (h : inO base.length l) : (actI ds base l).eval = evO base l := evO_eq h
theorem put_actI (ds : List Deferred) (base : List Value) (l : Slots) (d : Option Nat) (v : Value) : (actI ds base l).put d v = actI ds base (putO d v l) := by
  cases d with
  | none => rfl
  | some d => simp [Act.put, actI, putO, ovO]
section
variable {F : Fence} {n : Nat} {ds : List Deferred} {P : Program} {ops : Array Oper} {Q : Exit → Act → World → Prop} {base : List Value} {rest : List Oper} {l : Slots} {w w0 : World} {o : Oper} {rs : List RowK} {L : List Nat}
theorem wiM (hF : Free F) {V : Value} {w' : World} (he : (execOp (evO base l) o).run P w = .ok (.value V) w') (h : WI F n ds P ops Q base rest (putO o.dst V l) w')
    (hg : wantO ops base.length base l o = some true := by kernel_rfl) (hd : dstO o.dst base.length = true := by kernel_rfl) (hn : mildO o = true := by kernel_rfl) : WI F n ds P ops Q base (o :: rest) l w :=
  ⟨fun hi => wpListIn_step fun K hK => by
    rw [if_pos (show Region.wanted o (yielded ops (actI ds base l).tmps) = true from wantO_sound hg hi)]
    refine ⟨fun f _ => hF.fn f, ?_⟩
    rw [mild_df hn, evI_eq ds hi, he]
    show K _ _
    rw [put_actI]
    exact hK _ _ (h.h (inO_put hd hi))⟩
theorem wiY (hF : Free F) {lo : Nat} {f : FuncId} {tmps : Array Value} {assign body : Code} {R : Ending → World → Prop} (hc : RoundIn F (n - 1) P lo f tmps assign body w R) (h : ∀ e w', R e w' → ∃ V, e = .returned V ∧ WI F n ds P ops Q base rest (putO o.dst V l) w')
    (he : (execOp (evO base l) o).run P w = .ok (.round lo f tmps assign body) w)
    (hg : wantO ops base.length base l o = some true := by kernel_rfl) (hd : dstO o.dst base.length = true := by kernel_rfl) (hn : ∀ c, o.op ≠ .defer c := by intro c e; cases e) : WI F n ds P ops Q base (o :: rest) l w :=
  ⟨fun hi => wpListIn_step fun K hK => by
    rw [if_pos (show Region.wanted o (yielded ops (actI ds base l).tmps) = true from wantO_sound hg hi)]
    refine ⟨fun f _ => hF.fn f, ?_⟩
    rw [Oper.semAt_plain F _ _ hn, evI_eq ds hi, he]
    refine ⟨fun hx => (by rw [hF.depth] at hx; cases hx), hc.mono fun e w' hR => ?_⟩
    obtain ⟨V, rfl, hV⟩ := h e w' hR
    show K _ _
    rw [put_actI]
    exact hK _ _ (hV.h (inO_put hd hi))⟩
theorem wiW (hF : Free F) (hT : Tame Q) (h : WO P ops (Qd ds Q) base rest l w) (hm : rest.all mildO = true := by kernel_rfl) : WI F n ds P ops Q base rest l w := ⟨fun hi => list_in hF hT rest hm (actO base l) w (h.h hi).h⟩
theorem eiO {e : Exit} (h : EI ds Q e base l w) : EO (Qd ds Q) e base l w := ⟨fun hi => h.h hi⟩
theorem ciR' {id : Nat} {l0 : List Oper} {y : Code} (h : WI F n ds P l0.toArray (Exit.then (y.wpIn F n P Q) Q) base l0 l w) : CI F n ds P (.seq (.region id l0.toArray false) y) Q base l w := ⟨fun hi => wpIn_seq (wpIn_region_lit (h.h hi))⟩
theorem ciZ' {id : Nat} {l0 : List Oper} (h : WI F n ds P l0.toArray Q base l0 l w) : CI F n ds P (.region id l0.toArray false) Q base l w := ⟨fun hi => wpIn_region_lit (h.h hi)⟩
theorem ciR (hF : Free F) (hT : Tame Q) {id : Nat} {l0 : List Oper} {y : Code} (h : WO P l0.toArray (Qd ds (Exit.then (y.wpIn F n P Q) Q)) base l0 l w) (hm : l0.all mildO = true := by kernel_rfl) : CI F n ds P (.seq (.region id l0.toArray false) y) Q base l w := ciR' (wiW hF hT.thn h hm)
theorem ciZ (hF : Free F) (hT : Tame Q) {id : Nat} {l0 : List Oper} (h : WO P l0.toArray (Qd ds Q) base l0 l w) (hm : l0.all mildO = true := by kernel_rfl) : CI F n ds P (.region id l0.toArray false) Q base l w := ciZ' (wiW hF hT h hm)
theorem part_in (hF : Free F) (hT : Tame Q) {S : World → Prop} {id : Nat} (m : Nat) (hS : S w.drew) (h : PO P ops (Qd ds Q) S m base m (Array.replicate ops.size false) l w.drew)
    (hm : ops.all mildO = true) (hB : partB ops m = true) (hx : P.follows .mixedOrders = true) (hi : inO base.length l) : (Code.region id ops true).wpIn F n P Q (actI ds base l) w := by
  have hp := h.h hi
  simp only [partB, Bool.and_eq_true, decide_eq_true_eq] at hB
  obtain ⟨hsel, hn, hs, hc⟩ := hB
  have inv0 : HeadInv .any ops m (Array.replicate ops.size false) :=
    ⟨by simp, fun j oj _ hl => (by rw [getD_replicate_false] at hl; cases hl), fun t _ ht => getD_in (by simpa using ht) (getD_replicate_false _ _)⟩
  have H := hp inv0
  refine wpIn_region_any hx ?_
  have := wpAny_of_part (g := ops.size - m) (fun listed a w hL => by
    have := wpAny_of_seq (md := .any) (Q' := Qd ds Q) (ops.toList.drop m) m listed a w (fun j => by simp [List.getElem?_drop]) (by simpa using hL.1) hL.2
    simpa using this) _ _ _ _ H
  rw [show m + (ops.size - m) = ops.size by omega] at this
  refine any_in hF hT (fun i o ho => ?_) _ _ (actO base l) _ this
  have := Array.all_eq_true_iff_forall_mem.1 hm o (Array.mem_of_getElem? ho)
  exact this
theorem ciP (hF : Free F) (hT : Tame Q) {S : World → Prop} {id : Nat} {y : Code} (m : Nat) (hS : S w.drew) (h : PO P ops (Qd ds (Exit.then (y.wpIn F n P Q) Q)) S m base m (Array.replicate ops.size false) l w.drew)
    (hm : ops.all mildO = true := by kernel_rfl) (hB : partB ops m = true := by kernel_rfl) (hx : P.follows .mixedOrders = true := by kernel_rfl) : CI F n ds P (.seq (.region id ops true) y) Q base l w := ⟨fun hi => wpIn_seq (part_in hF hT.thn m hS h hm hB hx hi)⟩
theorem ciSkip (h : EI ds Q .normal base l w) : CI F n ds P .skip Q base l w := ⟨fun hi => wpIn_skip (h.h hi)⟩
theorem ciRet (h : EI ds Q .ret base l w) : CI F n ds P .ret Q base l w := ⟨fun hi => wpIn_ret (h.h hi)⟩
theorem ciB {id : Nat} {c : Code} (h : CI F n ds P c (Exit.inBlock id Q) base l w) : CI F n ds P (.block id c) Q base l w := ⟨fun hi => wpIn_block (h.h hi)⟩
theorem ciI (t : Bool) {c : Operand} {x y : Code} (ht : t = true → CI F n ds P x Q base l w) (hf : t = false → CI F n ds P y Q base l w) (hc : evO base l c = .bool t := by kernel_rfl) : CI F n ds P (.cond c x y) Q base l w :=
  ⟨fun hi => wpIn_cond_split (by rw [evI_eq ds hi]; exact hc) (fun e => (ht e).h hi) fun e => (hf e).h hi⟩
theorem ciF {c : Operand} {x y : Code} (hf : CI F n ds P y Q base l w) (hc : evO base l c = .bool false := by kernel_rfl) : CI F n ds P (.cond c x y) Q base l w := ciI false (fun e => by cases e) (fun _ => hf) hc
theorem eiT {y : Code} (h : CI F n ds P y Q base l w) : EI ds (Exit.then (y.wpIn F n P Q) Q) .normal base l w := ⟨fun hi => h.h hi⟩
theorem eiB {i : Nat} (h : EI ds Q .normal base l w) : EI ds (Exit.inBlock i Q) .normal base l w := ⟨fun hi => h.h hi⟩
theorem eoC' {y : Code} (h : CI F n ds P y Q base l w) : EO (Qd ds (Exit.then (y.wpIn F n P Q) Q)) .normal base l w := eiO (eiT h)
theorem coIn {c : Code} (m : Nat) (h : CI Fence.wide m [] P c Q base l w) : CO P c Q base l w := ⟨fun hi => wpIn_wide.1 (h.h hi)⟩
theorem eiE {e : Exit} (h : EO Q e base l w) : EI [] Q e base l w := ⟨fun hi => h.h hi⟩
theorem eiTo {y : Code} {m : Nat} (h : CI Fence.wide m ds P y Q base l w) : EI ds (Exit.then (y.wp P Q) Q) .normal base l w := ⟨fun hi => wpIn_wide.1 (h.h hi)⟩
theorem ciRange {gf : FuncId} {lb : Array Value} {gop : Operand} {ps : Array Tmp} {assign body : Code} (eg : ∀ args w, (callFunc gf args).run P w = .ok (.enter gf args) w)
    (h : ∀ (fn : FuncId) (W1 : World), Below w.heap.size w W1 → W1.heap[w.heap.size]? = some (.deferred (some [])) → W1.heap[w.heap.size + 1]? = some (.loop { state := .ready, pending := none, fn, tmps := (ovO base l).toArray, params := ps, assign, body, defers := w.heap.size }) →
      Calls P gf (#[.func (.yield (w.heap.size + 1)) #[] #[]] ++ lb) W1 fun e W3 => ∃ v W4, e = .returned v ∧ (Instr.endLoop (w.heap.size + 1)).run P W3 = .ok none W4 ∧ EI [{ target := .collected w.heap.size, args := #[] }] Q .normal base l W4)
    (hg : evO base l gop = .func (.func gf) #[] lb := by kernel_rfl) : CI Fence.wide 0 [] P (.rangeFunc gop ps assign body) Q base l w :=
  ⟨fun hi => by
    refine wpIn_rangeFunc fun fn _ => ?_
    have hev : (actI [] base l).eval gop = .func (.func gf) #[] lb := by rw [evI_eq [] hi]; exact hg
    obtain ⟨W1, hW1⟩ : ∃ W1, W1 = (w.alloc (.deferred (some []))).alloc (.loop { state := .ready, pending := none, fn, tmps := (ovO base l).toArray, params := ps, assign, body, defers := w.heap.size }) := ⟨_, rfl⟩
    have hb1 : Below w.heap.size w W1 := by
      rw [hW1]
      exact Below.alloc (Below.alloc (Below.refl _ _) (Nat.le_refl _) _) (by simp) _
    have hD1 : W1.heap[w.heap.size]? = some (.deferred (some [])) := by
      rw [hW1]
      exact (Below.heap_alloc _ _ _ (by simp)).trans (World.alloc_heap_new w _)
    have hL1 : W1.heap[w.heap.size + 1]? = some (.loop { state := .ready, pending := none, fn, tmps := (ovO base l).toArray, params := ps, assign, body, defers := w.heap.size }) := by
      rw [hW1]
      have := World.alloc_heap_new (w.alloc (.deferred (some []))) (.loop { state := .ready, pending := none, fn, tmps := (ovO base l).toArray, params := ps, assign, body, defers := w.heap.size })
      rw [World.size_alloc] at this
      exact this
    have h0 : (Instr.enterLoop fn (actI [] base l).tmps ps assign body Fence.wide.round).run P w = .ok (w.heap.size + 1, [{ target := .collected w.heap.size, args := #[] }]) W1 := by
      rw [hW1]
      exact run_enterLoop_outer _ _ _ _ _
    refine ⟨w.heap.size + 1, [{ target := .collected w.heap.size, args := #[] }], W1, { target := .fn (.func gf) lb, args := #[.func (.yield (w.heap.size + 1)) #[] #[]] }, W1, gf, #[.func (.yield (w.heap.size + 1)) #[] #[]] ++ lb, W1, h0, ?_, ?_, ?_, ?_, ?_⟩
    · simp only [resolve, hev]
      simp [go_sem]
    · intro f' _; exact trivial
    · simp [invoke, go_sem, eg]
    · intro hx; cases hx
    · refine callsIn_wide.2 ((h fn W1 hb1 hD1 hL1).mono fun e W3 ⟨v, W4, he, hend, hq⟩ => ?_)
      subst he
      exact ⟨none, W4, hend, hq.h hi⟩⟩
theorem ciRound {lo : Nat} {f : FuncId} {tmps : Array Value} {assign body : Code} {R : Ending → World → Prop} (ht : tmps = (ovO base l).toArray) (hi : inO base.length l)
    (h : CI (Fence.wide.inRound lo) 0 [] P assign (Exit.then (fun a₁ w₁ => ∃ w₂, (Instr.beginRound lo).run P w₁ = .ok () w₂ ∧ body.wpIn (Fence.wide.inRound lo) 0 P (roundPost P lo R) a₁ w₂) (fun _ _ _ => False)) base l w) : RoundIn Fence.wide 0 P lo f tmps assign body w R :=
  roundIn_of_wpIn trivial (by subst ht; exact h.h hi)
theorem eiBegin {lo : Nat} {body : Code} {R : Ending → World → Prop} {w2 : World} {N : Exit → Act → World → Prop} (hb : (Instr.beginRound lo).run P w = .ok () w2) (h : CI (Fence.wide.inRound lo) 0 [] P body (roundPost P lo R) base l w2) :
    EI [] (Exit.then (fun a₁ w₁ => ∃ w₂, (Instr.beginRound lo).run P w₁ = .ok () w₂ ∧ body.wpIn (Fence.wide.inRound lo) 0 P (roundPost P lo R) a₁ w₂) N) .normal base l w := ⟨fun hi => ⟨w2, hb, h.h hi⟩⟩
theorem eiEnd {lo : Nat} {R : Ending → World → Prop} {v : Value} {w' : World} (he : (Instr.endRound lo none).run P w = .ok v w') (hR : R (.returned v) w') : EI [] (roundPost P lo R) .normal base l w := ⟨fun _ => ⟨v, w', he, hR⟩⟩
theorem eiBegin' {lo : Nat} {rc : Loop} {body : Code} {R : Ending → World → Prop} {N : Exit → Act → World → Prop} (hl : w.heap[lo]? = some (.loop rc)) (hr : rc.state = .ready)
    (h : ∀ w2, w.grownBy w2 (some lo) → w2.heap[lo]? = some (.loop { rc with state := .busy }) → CI (Fence.wide.inRound lo) 0 [] P body (roundPost P lo R) base l w2) :
    EI [] (Exit.then (fun a₁ w₁ => ∃ w₂, (Instr.beginRound lo).run P w₁ = .ok () w₂ ∧ body.wpIn (Fence.wide.inRound lo) 0 P (roundPost P lo R) a₁ w₂) N) .normal base l w :=
  eiBegin (run_beginRound hl hr) (h _ (grownBy_putObj' w lo _) (World.putObj_heap_same (Array.getElem?_eq_some_iff.1 hl).1))
theorem eiEnd' {lo : Nat} {rc : Loop} {R : Ending → World → Prop} (hl : w.heap[lo]? = some (.loop rc)) (hR : ∀ w', w.grownBy w' (some lo) → w'.heap[lo]? = some (.loop { rc with state := .ready, pending := none }) → R (.returned (.bool true)) w') : EI [] (roundPost P lo R) .normal base l w :=
  eiEnd (run_endRound none hl) (hR _ (grownBy_putObj' w lo _) (World.putObj_heap_same (Array.getElem?_eq_some_iff.1 hl).1))
theorem endLoop_run {lo : Nat} {rc : Loop} (hl : w.heap[lo]? = some (.loop rc)) (hs : rc.state ≠ .busy) (hp : rc.pending = none) : ∃ w', (Instr.endLoop lo).run P w = .ok none w' ∧ w.grownBy w' (some lo) :=
  ⟨_, by rw [run_endLoop hl hs, hp], grownBy_putObj' w lo _⟩
theorem eiRetM {fn : Func} {R : Ending → World → Prop} {t : Tmp} {D : Nat} (V : Value) (hD : w.heap[D]? = some (.deferred (some []))) (hR : R (.returned V) (w.putObj D (.deferred none))) (h : fn.results = #[.tmp t] := by exact rfl) (hv : lkO base t l = V := by kernel_rfl) :
    EI [{ target := .collected D, args := #[] }] (bodyPostM Fence.wide 0 P fn R) .ret base l w :=
  ⟨fun hi => ⟨by simp, .inl ⟨D, _, rfl, run_takeDeferred hD, V, by rw [results_tmp h, show (actI [{ target := .collected D, args := #[] }] base l).tmps.getD t undef = V from (congrFun (evO_eq hi) (.tmp t)).trans hv], hR⟩⟩⟩
end
def isM (b n : Int) : Bool := decide (0 ≤ n) && (decide (n < 8) && decide (b / 2 ^ n.toNat % 2 = 1))
def withM (b n : Int) (on : Bool) : Int := if 0 ≤ n ∧ n < 8 then (if isM b n then (if on then b else b - 2 ^ n.toNat) else (if on then b + 2 ^ n.toNat else b)) else b
theorem byte_all {P : Int → Prop} (h : ∀ x : Fin 256, P (x.val : Int)) (b : Int) (h0 : 0 ≤ b) (h1 : b ≤ 255) : P b := by
  have := h ⟨b.toNat, by omega⟩
  simpa [Int.toNat_of_nonneg h0] using this
theorem bit_all {P : Int → Prop} (h : ∀ x : Fin 8, P (x.val : Int)) (n : Int) (h0 : 0 ≤ n) (h1 : n < 8) : P n := by
  have := h ⟨n.toNat, by omega⟩
  simpa [Int.toNat_of_nonneg h0] using this
theorem withM_fin : ∀ (x : Fin 256) (y : Fin 8) (on : Bool), 0 ≤ withM (x.val : Int) (y.val : Int) on ∧ withM (x.val : Int) (y.val : Int) on ≤ 255 := by decide +kernel
theorem withM_byte (b n : Int) (on : Bool) (h0 : 0 ≤ b) (h1 : b ≤ 255) : 0 ≤ withM b n on ∧ withM b n on ≤ 255 := by
  by_cases h : 0 ≤ n ∧ n < 8
  · exact bit_all (P := fun y => 0 ≤ withM b y on ∧ withM b y on ≤ 255) (fun y => byte_all (P := fun b => 0 ≤ withM b (y.val : Int) on ∧ withM b (y.val : Int) on ≤ 255) (fun x => withM_fin x y on) b h0 h1) n h.1 h.2
  · unfold withM; rw [if_neg h]; exact ⟨h0, h1⟩
def B8 (x : Int) : Prop := 0 ≤ x ∧ x ≤ 255
theorem B8.lo {b : Int} (h : B8 b) : 0 ≤ b := h.1
theorem B8.hi {b : Int} (h : B8 b) : b ≤ 255 := h.2
theorem B8.with {b : Int} (h : B8 b) (n : Int) (on : Bool) : B8 (withM b n on) := withM_byte b n on h.1 h.2
theorem B8.zero : B8 0 := ⟨by omega, by omega⟩
def sel (m a b : Bool) : Bool := if m then b else a
structure Rg where
  af : Int
  bc : Int
  de : Int
  hl : Int
  af2 : Int
  bc2 : Int
  de2 : Int
  hl2 : Int
  ix : Int
  iy : Int
  sp : Int
  pc : Int
  wz : Int
  i : Int
  r : Int
  iff1 : Bool
  iff2 : Bool
  halted : Bool
  late : Bool
  mode : Int
deriving DecidableEq
def Wd16 (x : Int) : Prop := 0 ≤ x ∧ x ≤ 65535
theorem Wd16.hi {x : Int} (h : Wd16 x) : B8 (x / 256) := ⟨by have := h.1; omega, by have := h.2; omega⟩
theorem Wd16.lo8 {x : Int} (h : Wd16 x) : B8 (x % 256) := ⟨by omega, by omega⟩
theorem Wd16.mk8 {a b : Int} (ha : B8 a) (hb : B8 b) : Wd16 (256 * a + b) := ⟨by have := ha.1; have := hb.1; omega, by have := ha.2; have := hb.2; omega⟩
theorem Wd16.zero : Wd16 0 := ⟨by omega, by omega⟩
structure RgB (g : Rg) : Prop where
  af : Wd16 g.af
  bc : Wd16 g.bc
  de : Wd16 g.de
  hl : Wd16 g.hl
  af2 : Wd16 g.af2
  bc2 : Wd16 g.bc2
  de2 : Wd16 g.de2
  hl2 : Wd16 g.hl2
  ix : Wd16 g.ix
  iy : Wd16 g.iy
  sp : Wd16 g.sp
  pc : Wd16 g.pc
  wz : Wd16 g.wz
  i : B8 g.i
  r : B8 g.r
  mode : -9223372036854775808 ≤ g.mode ∧ g.mode ≤ 9223372036854775807
def pairG (g : Rg) (plane p : Int) : Int :=
  if p = 0 then g.bc else if p = 1 then g.de else if p = 2 then (if plane = 3 then g.ix else if plane = 4 then g.iy else g.hl) else if p = 3 then g.sp else 0
def setPairG (g : Rg) (plane p w : Int) : Rg :=
  if p = 0 then { g with bc := w } else if p = 1 then { g with de := w } else
  if p = 2 then (if plane = 3 then { g with ix := w } else if plane = 4 then { g with iy := w } else { g with hl := w }) else if p = 3 then { g with sp := w } else g
def getG (g : Rg) (plane k : Int) : Int :=
  if k = 7 then g.af / 256 else if k < 0 ∨ 5 < k then 0 else if k % 2 = 0 then pairG g plane (k / 2) / 256 else pairG g plane (k / 2) % 256
def setG (g : Rg) (plane k b : Int) : Rg :=
  if k = 7 then { g with af := 256 * b + g.af % 256 } else if k < 0 ∨ 5 < k then g else
  if k % 2 = 0 then setPairG g plane (k / 2) (256 * b + pairG g plane (k / 2) % 256) else setPairG g plane (k / 2) (256 * (pairG g plane (k / 2) / 256) + b)
theorem RgB.pair {g : Rg} (h : RgB g) (plane p : Int) : Wd16 (pairG g plane p) := by
  unfold pairG
  repeat' split
  all_goals first | exact h.bc | exact h.de | exact h.ix | exact h.iy | exact h.hl | exact h.sp | exact Wd16.zero
theorem RgB.setPair {g : Rg} (h : RgB g) (plane p : Int) {w : Int} (hw : Wd16 w) : RgB (setPairG g plane p w) := by
  obtain ⟨h1, h2, h3, h4, h5, h6, h7, h8, h9, h10, h11, h12, h13, h14, h15, h16⟩ := h
  unfold setPairG
  repeat' split
  all_goals constructor <;> assumption
theorem RgB.get {g : Rg} (h : RgB g) (plane k : Int) : B8 (getG g plane k) := by
  unfold getG
  repeat' split
  · exact h.af.hi
  · exact B8.zero
  · exact (h.pair ..).hi
  · exact (h.pair ..).lo8
theorem RgB.set {g : Rg} (h : RgB g) (plane k : Int) {b : Int} (hb : B8 b) : RgB (setG g plane k b) := by
  unfold setG
  split
  · have h' := Wd16.mk8 hb h.af.lo8
    obtain ⟨h1, h2, h3, h4, h5, h6, h7, h8, h9, h10, h11, h12, h13, h14, h15, h16⟩ := h
    constructor <;> assumption
  split
  · exact h
  split
  · exact h.setPair _ _ (Wd16.mk8 hb (h.pair ..).lo8)
  · exact h.setPair _ _ (Wd16.mk8 (h.pair ..).hi hb)
def gb (xs : List Int) (i : Nat) : Int := xs.getD i 0
def Bytes8 (xs : List Int) : Prop := ∀ x ∈ xs, B8 x
structure Cy where
  kind : Int
  addr : Int
  data : Int
  t : Int
deriving DecidableEq
inductive Tr (α : Type) where
  | done (a : α) : Tr α
  | ask (c : Cy) (k : Int → Tr α) : Tr α
def Tr.bind {α β : Type} : Tr α → (α → Tr β) → Tr β
  | .done a, f => f a
  | .ask c k, f => .ask c (fun b => (k b).bind f)
def Tr.run {α : Type} : Tr α → List Int → Except Cy (α × List Int)
  | .done a, xs => .ok (a, xs)
  | .ask c _, [] => .error c
  | .ask _ k, b :: bs => (k b).run bs
theorem Tr.run_done {α : Type} (a : α) (xs : List Int) : (Tr.done a).run xs = .ok (a, xs) := by unfold Tr.run; rfl
theorem Tr.run_nil {α : Type} (c : Cy) (k : Int → Tr α) : (Tr.ask c k).run [] = .error c := rfl
theorem Tr.run_bind {α β : Type} (t : Tr α) (f : α → Tr β) : ∀ xs, (t.bind f).run xs = match t.run xs with | .ok (a, ys) => (f a).run ys | .error c => .error c := by
  induction t with
  | done a => intro xs; rw [Tr.run_done]; rfl
  | ask c k ih =>
    intro xs
    cases xs with
    | nil => rfl
    | cons b bs => exact ih b bs
structure Zs where
  pos : Nat
  lacks : Bool
  asked : Cy
def Tr.runZ {α : Type} (xs : List Int) : Tr α → Zs → α × Zs
  | .done a, z => (a, z)
  | .ask c k, z => if z.lacks then (k 0).runZ xs z else if xs.length ≤ z.pos then (k 0).runZ xs { z with lacks := true, asked := c } else (k (xs.getD z.pos 0)).runZ xs { z with pos := z.pos + 1 }
def Tr.All {α : Type} (C : Cy → Prop) (P : α → Prop) : Tr α → Prop
  | .done a => P a
  | .ask c k => C c ∧ ∀ b, B8 b → (k b).All C P
theorem Tr.All.bind {α β : Type} {C : Cy → Prop} {P : α → Prop} {Q : β → Prop} {t : Tr α} {f : α → Tr β} (h : t.All C P) (hf : ∀ a, P a → (f a).All C Q) : (t.bind f).All C Q := by
  induction t with
  | done a => exact hf a h
  | ask c k ih => exact ⟨h.1, fun b hb => ih b (h.2 b hb)⟩
theorem Tr.All.mono {α : Type} {C : Cy → Prop} {P Q : α → Prop} {t : Tr α} (h : t.All C P) (hPQ : ∀ a, P a → Q a) : t.All C Q := by
  induction t with
  | done a => exact hPQ a h
  | ask c k ih => exact ⟨h.1, fun b hb => ih b (h.2 b hb)⟩
theorem Bytes8.tail {b : Int} {bs : List Int} (h : Bytes8 (b :: bs)) : Bytes8 bs := fun x hx => h x (List.mem_cons_of_mem _ hx)
theorem Bytes8.head {b : Int} {bs : List Int} (h : Bytes8 (b :: bs)) : B8 b := h b List.mem_cons_self
theorem Tr.All.ok {α : Type} {C : Cy → Prop} {P : α → Prop} {t : Tr α} (h : t.All C P) : ∀ {xs ys : List Int} {a : α}, Bytes8 xs → t.run xs = .ok (a, ys) → P a ∧ Bytes8 ys := by
  induction t with
  | done a =>
    intro xs ys a' hx e
    rw [Tr.run_done] at e
    injection e with e; injection e with e1 e2; subst e1; subst e2
    exact ⟨h, hx⟩
  | ask c k ih =>
    intro xs ys a' hx e
    cases xs with
    | nil => cases e
    | cons b bs => exact ih b (h.2 b hx.head) hx.tail e
theorem Tr.All.error {α : Type} {C : Cy → Prop} {P : α → Prop} {t : Tr α} (h : t.All C P) : ∀ {xs : List Int} {c : Cy}, Bytes8 xs → t.run xs = .error c → C c := by
  induction t with
  | done a => intro xs c hx e; rw [Tr.run_done] at e; cases e
  | ask c k ih =>
    intro xs c' hx e
    cases xs with
    | nil => rw [Tr.run_nil] at e; injection e with e; exact e ▸ h.1
    | cons b bs => exact ih b (h.2 b hx.head) hx.tail e
theorem Bytes8.getD {xs : List Int} (h : Bytes8 xs) (n : Nat) : B8 (xs.getD n 0) := by
  by_cases hn : n < xs.length
  · rw [List.getD_eq_getElem?_getD, List.getElem?_eq_getElem hn]
    exact h _ (List.getElem_mem hn)
  · rw [List.getD_eq_getElem?_getD, List.getElem?_eq_none (by omega)]
    exact B8.zero
theorem Tr.All.z {α : Type} {C : Cy → Prop} {P : α → Prop} {t : Tr α} (h : t.All C P) {xs : List Int} (hx : Bytes8 xs) : ∀ z, P (t.runZ xs z).1 := by
  induction t with
  | done a => intro z; exact h
  | ask c k ih =>
    intro z
    simp only [Tr.runZ]
    split
    · exact ih _ (h.2 _ B8.zero) _
    split
    · exact ih _ (h.2 _ B8.zero) _
    · exact ih _ (h.2 _ (hx.getD _)) _
def Tr.Same {α : Type} : Tr α → Tr α → Prop
  | .done a, .done b => a = b
  | .ask c k, .ask d l => c = d ∧ ∀ b, B8 b → (k b).Same (l b)
  | _, _ => False
theorem Tr.Same.refl {α : Type} (t : Tr α) : t.Same t := by
  induction t with
  | done a => exact rfl
  | ask c k ih => exact ⟨rfl, fun b _ => ih b⟩
theorem Tr.Same.run {α : Type} {t : Tr α} : ∀ {u : Tr α} {xs : List Int}, t.Same u → Bytes8 xs → t.run xs = u.run xs := by
  induction t with
  | done a =>
    intro u xs h hx
    cases u with
    | done b => cases h; rfl
    | ask d l => exact h.elim
  | ask c k ih =>
    intro u xs h hx
    cases u with
    | done b => exact h.elim
    | ask d l =>
      cases xs with
      | nil => rw [Tr.run_nil, Tr.run_nil, h.1]
      | cons b bs => exact ih b (h.2 b hx.head) hx.tail
theorem Tr.Same.bind {α β : Type} {f g : α → Tr β} {C : Cy → Prop} {P : α → Prop} {t : Tr α} : ∀ {u : Tr α}, t.Same u → t.All C P → (∀ a, P a → (f a).Same (g a)) → (t.bind f).Same (u.bind g) := by
  induction t with
  | done a =>
    intro u h hp hf
    cases u with
    | done b => cases h; exact hf a hp
    | ask d l => exact h.elim
  | ask c k ih =>
    intro u h hp hf
    cases u with
    | done b => exact h.elim
    | ask d l => exact ⟨h.1, fun b hb => ih b (h.2 b hb) (hp.2 b hb) hf⟩
theorem ldB {w : World} {ad : Addr} {V : Value} (h : w.cell? ad = some V) : (Instr.loadAt 4 (.pointer (some ad))).run Tryd.prog w = .ok V w := by simp [go_sem, h]
theorem egI (op : BinOp) (x y : Operand) (a b : Int) (w : World) : (eqGuard op 3 x y (.int .i64 a) (.int .i64 b)).run Tryd.prog w = .ok () w := by simp [go_sem]
theorem bNeI (x y : Int) (w : World) : (binOp .neq 3 (.int .i64 x) (.int .i64 y)).run Tryd.prog w = .ok (.bool (x != y)) w := by simp [go_sem, bne]
theorem bSubI (x y : Int) (h : -9223372036854775808 ≤ x - y) (h' : x - y ≤ 9223372036854775807) (w : World) : (binOp .sub 3 (.int .i64 x) (.int .i64 y)).run Tryd.prog w = .ok (.int .i64 (x - y)) w := by
  have e : IntKind.i64.wrap (x - y) = x - y := by rw [IntKind.wrap_i64]; omega
  simp [go_sem, e]
@[reducible] def pT (b k : Nat) : Value := .pointer (some ⟨b, k, none⟩)
abbrev blocksO (rs : List RowK) : List Nat := rs.map (·.b)
theorem Many.low {w0 w : World} {rs : List RowK} (h : Many w0 [] rs w) : ∀ b ∈ blocksO rs, w0.heap.size ≤ b := fun b hb => by
  obtain ⟨r, hr, rfl⟩ := List.mem_map.1 hb
  obtain ⟨i, hi⟩ := List.getElem?_of_mem hr
  rcases h.own i r hi with e | e
  · cases e
  · exact e
structure Kept (S : Nat → Prop) (w w' : World) : Prop where
  os : w'.os = w.os
  tape : w'.tape = w.tape
  output : w'.output = w.output
  size : w.heap.size ≤ w'.heap.size
  block : ∀ b, b < w.heap.size → ¬ S b → w'.heap[b]? = w.heap[b]?
theorem Kept.refl (S : Nat → Prop) (w : World) : Kept S w w := ⟨rfl, rfl, rfl, Nat.le_refl _, fun _ _ _ => rfl⟩
theorem Kept.trans {S T U : Nat → Prop} {a b c : World} (h : Kept S a b) (k : Kept T b c) (hS : ∀ x, S x → U x) (hT : ∀ x, x < a.heap.size → T x → U x) : Kept U a c :=
  ⟨k.os.trans h.os, k.tape.trans h.tape, k.output.trans h.output, Nat.le_trans h.size k.size, fun i hi n => (k.block i (Nat.lt_of_lt_of_le hi h.size) fun e => n (hT i hi e)).trans (h.block i hi fun e => n (hS i e))⟩
theorem Kept.mono {S U : Nat → Prop} {a b : World} (h : Kept S a b) (hS : ∀ x, x < a.heap.size → S x → U x) : Kept U a b := ⟨h.os, h.tape, h.output, h.size, fun i hi n => h.block i hi fun e => n (hS i hi e)⟩
theorem Kept.of_below {S : Nat → Prop} {w w' : World} (h : Below w.heap.size w w') : Kept S w w' := ⟨h.os, h.tape, h.output, h.size, fun b hb _ => h.block b hb⟩
theorem Kept.of_touch {L : List Nat} {w w' : World} (h : Touch L w w') : Kept (fun b => b ∈ L) w w' := ⟨h.os, h.tape, h.output, h.size, fun b hb n => h.block b hb n⟩
theorem Kept.of_grown {r : Option Nat} {w w' : World} (h : w.grownBy w' r) : Kept (fun b => r = some b) w w' := ⟨h.os, h.tape, h.output, h.size, fun b hb n => h.block b hb fun e => n e.symm⟩
theorem Kept.row {S : Nat → Prop} {w w' : World} (k : Kept S w w') {b : Nat} {t : TypeId} {cs : Array Value} (h : Row w b t cs) (n : ¬ S b) : Row w' b t cs := (k.block b h.lt n).trans h
theorem Kept.own {S : Nat → Prop} {w w' : World} (k : Kept S w w') {b : Nat} {e : TypeId} {s : Nat} {v : Value} {n : Nat} {xs : List Value} (h : w.ownsRow b e s v n xs) (hn : ∀ x, v.ownBlock = some x → ¬ S x) : w'.ownsRow b e s v n xs := by
  obtain ⟨h1, h2⟩ := h
  refine ⟨h1, ?_⟩
  rcases h2 with h2 | ⟨g, cap, cur, rfl, hb, hg, rest⟩
  · exact .inl h2
  · exact .inr ⟨g, cap, cur, rfl, hb, (k.block g (Array.getElem?_eq_some_iff.1 hg).1 (hn g rfl)).trans hg, rest⟩
theorem Kept.low {S : Nat → Prop} {w0 w w' : World} {B : Nat} (h : Below B w0 w) (k : Kept S w w') (hB : B ≤ w.heap.size) (hS : ∀ b, S b → B ≤ b) : Below B w0 w' :=
  ⟨k.os.trans h.os, k.tape.trans h.tape, k.output.trans h.output, Nat.le_trans h.size k.size, fun b hb => (k.block b (Nat.lt_of_lt_of_le hb hB) fun e => by have := hS b e; omega).trans (h.block b hb)⟩
theorem Kept.below {S : Nat → Prop} {w w' : World} (k : Kept S w w') (hS : ∀ b, S b → w.heap.size ≤ b) : Below w.heap.size w w' := ⟨k.os, k.tape, k.output, k.size, fun b hb => k.block b hb fun e => by have := hS b e; omega⟩
theorem Many.these {w : World} {rs : List RowK} (hr : RowsAt w rs) (hd : Dis rs) (L : List Nat) (e : blocksO rs = L := by kernel_rfl) : Many w L rs w := ⟨hr, hd, fun i r h => .inl (e ▸ List.mem_map.2 ⟨r, List.mem_of_getElem? h, rfl⟩), .refl ..⟩
theorem kn_full (cs : Array Value) : Kn (cs.toList.map some) cs := ⟨by simp, fun k v hv => by
  rw [List.getElem?_map] at hv
  cases hl : cs.toList[k]? with
  | none => rw [hl] at hv; cases hv
  | some u => rw [hl] at hv; injection hv with hv; injection hv with hv; subst hv; simpa using hl⟩
theorem Many.two {w : World} {a b : Nat} {t u : TypeId} {cs ds : Array Value} (ha : Row w a t cs) (hb : Row w b u ds) (n : a ≠ b) : Many w [a, b] [⟨a, t, cs.toList.map some⟩, ⟨b, u, ds.toList.map some⟩] w := by
  refine Many.these (fun i r hi => ?_) (fun i j r q hi hj hij => ?_) _ rfl
  · match i, hi with
    | 0, hi => cases hi; exact ⟨cs, ha, kn_full cs⟩
    | 1, hi => cases hi; exact ⟨ds, hb, kn_full ds⟩
  · match i, j, hi, hj with
    | 0, 0, _, _ => exact absurd rfl hij
    | 1, 1, _, _ => exact absurd rfl hij
    | 0, 1, hi, hj => cases hi; cases hj; exact n
    | 1, 0, hi, hj => cases hi; cases hj; exact n.symm
theorem Many.three {w : World} {a b c : Nat} {t u v : TypeId} {cs ds es : Array Value} (ha : Row w a t cs) (hb : Row w b u ds) (hc : Row w c v es) (n : a ≠ b) (m : a ≠ c) (l : b ≠ c) : Many w [a, b, c] [⟨a, t, cs.toList.map some⟩, ⟨b, u, ds.toList.map some⟩, ⟨c, v, es.toList.map some⟩] w := by
  refine Many.these (fun i r hi => ?_) (fun i j r q hi hj hij => ?_) _ rfl
  · match i, hi with
    | 0, hi => cases hi; exact ⟨cs, ha, kn_full cs⟩
    | 1, hi => cases hi; exact ⟨ds, hb, kn_full ds⟩
    | 2, hi => cases hi; exact ⟨es, hc, kn_full es⟩
  · match i, j, hi, hj with
    | 0, 0, _, _ => exact absurd rfl hij
    | 1, 1, _, _ => exact absurd rfl hij
    | 2, 2, _, _ => exact absurd rfl hij
    | 0, 1, hi, hj => cases hi; cases hj; exact n
    | 1, 0, hi, hj => cases hi; cases hj; exact n.symm
    | 0, 2, hi, hj => cases hi; cases hj; exact m
    | 2, 0, hi, hj => cases hi; cases hj; exact m.symm
    | 1, 2, hi, hj => cases hi; cases hj; exact l
    | 2, 1, hi, hj => cases hi; cases hj; exact l.symm
def NewR (w : World) (ob ob' : Option Nat) : Prop := ob' = ob ∨ ∃ b, ob' = some b ∧ w.heap.size ≤ b
section
variable {P : Program} {ops : Array Oper} {Q : Exit → Act → World → Prop} {base : List Value} {rest : List Oper} {l : Slots} {w : World} {o : Oper}
theorem qOwn (s x : Operand) (t e : TypeId) (size bytes : Nat) (z : Value) (bs : Nat) (v : Value) (n : Nat) (xs : List Value) (p : Addr) (m c : Nat) (news : List Value) (hbs : bs ≤ w.heap.size)
    (hown : w.ownsRow bs e size v n xs) (hl : news.length = m * size) (hnews : ∀ j u, news[j]? = some u → w.cell? (p.add j) = some u) (h1 : ∀ u ∈ news, u.oneCell' = true) (hmax : n + m ≤ 1000000) (hby : bytes ≤ 1000)
    (h : ∀ v' w', w'.ownsRow bs e size v' (n + m) (xs ++ news) → w.grownBy w' v.ownBlock → NewR w v.ownBlock v'.ownBlock → WO P ops Q base rest (putO o.dst v' l) w')
    (hu : P.underlying t = some (.slice e) := by kernel_rfl) (hi : (P.info? e).map (fun i => (i.zero, i.size, i.bytes)) = some (some z, size, bytes) := by kernel_rfl) (hz : z.cells.size = size := by kernel_rfl) (h0 : 0 < size := by decide)
    (ho : o.op = .call { callee := .builtin .append, args := #[s, x], argTypes := #[t, t] } := by exact rfl) (hg : o.guard = none := by exact rfl) (hs : evO base l s = v := by kernel_rfl) (hx : evO base l x = .slice (some p) m c := by kernel_rfl) (hd : dstO o.dst base.length = true := by kernel_rfl) : WO P ops Q base (o :: rest) l w :=
  ⟨fun hin => ⟨by
    obtain ⟨i0, hi0, hz0, hz1, hz2⟩ := info_parts hi
    have hb : (n + m) * bytes ≤ 140737488355328 := by
      have : (n + m) * bytes ≤ 1000000 * 1000 := Nat.mul_le_mul hmax hby
      omega
    refine wpList_append_own_at _ hg s x t ho bs e i0 z size bytes hu hi0 hz0 hz1 hz2 hz h0 v n xs (by rw [evO_eq hin]; exact hs) hown p m c news (by rw [evO_eq hin]; exact hx) hl hnews h1 (by simp only [maxLen]; omega) hb hbs ?_
    intro v' w' own' hgr _ hat
    rw [put_actO]
    refine ((h v' w' own' hgr ?_).h (inO_put hd hin)).h
    rcases hat with e | e
    · exact .inl e
    · exact .inr ⟨_, e, Nat.le_refl _⟩⟩⟩
end
theorem Row.values {w : World} {b : Nat} {t : TypeId} {cs : Array Value} (h : Row w b t cs) : ∀ j u, cs.toList[j]? = some u → w.cell? ((⟨b, 0, none⟩ : Addr).add j) = some u := fun j u hu => by
  rw [show (⟨b, 0, none⟩ : Addr).add j = ⟨b, j, none⟩ by simp [Addr.add]; omega, h.cell j]
  simpa using hu
theorem Kept.drew {S : Nat → Prop} (w : World) : Kept S w w.drew := ⟨rfl, rfl, rfl, Nat.le_refl _, fun _ _ _ => rfl⟩
theorem Kept.drop {S : Nat → Prop} {w w' : World} (k : Kept S w w') {b : Nat} {t : TypeId} {cs : Array Value} (h : Row w b t cs) (h' : Row w' b t cs) : Kept (fun x => S x ∧ x ≠ b) w w' :=
  ⟨k.os, k.tape, k.output, k.size, fun x hx n => by
    by_cases e : x = b
    · subst e; exact Eq.trans h' (Eq.symm h)
    · exact k.block x hx fun c => n ⟨c, e⟩⟩
theorem Kept.put {w : World} {b : Nat} (o : Obj) : Kept (fun x => x = b) w (w.putObj b o) := (Kept.of_grown (grownBy_putObj' w b o)).mono fun x _ e => by injection e with e; exact e.symm
theorem ldOne {P : Program} {w : World} {b i : Nat} {V : Value} {t : TypeId} (hc : w.cell? ⟨b, i, none⟩ = some V) (hu : (P.underlying t).map (·.isRow) = some false := by kernel_rfl) : (Instr.loadAt t (.pointer (some ⟨b, i, none⟩))).run P w = .ok V w := by
  cases hp : P.underlying t with
  | none => rw [hp] at hu; cases hu
  | some d => rw [hp] at hu; injection hu with hu; exact loadOne hp hu hc
theorem ldAll {P : Program} {w : World} {b : Nat} {t u : TypeId} {cs : Array Value} (r : Row w b u cs) (ht : ((P.underlying t).map (·.isRow), (P.info? t).map (·.size)) = (some true, some cs.size) := by kernel_rfl) : (Instr.loadAt t (pT b 0)).run P w = .ok (.agg cs) w := by
  simp only [Prod.mk.injEq] at ht
  cases hu : P.underlying t with
  | none => rw [hu] at ht; cases ht.1
  | some d =>
    rw [hu] at ht
    have hd : d.isRow = true := by have := ht.1; injection this
    exact load_row r hu hd ht.2
structure SlotsY where
  y : Nat → Value
theorem coReset {P : Program} {Q : Exit → Act → World → Prop} {base : List Value} {l : Slots} {w : World} {c : Code} (B : SlotsY → List Value) (h : ∀ x, CO P c Q (B x) [] w) (e : ovO base l = B ⟨slotsO base l⟩ := by kernel_rfl) : CO P c Q base l w := coBase (B ⟨slotsO base l⟩) (h _) e
def tvs (l : List ByteArray) : List Value := l.map Value.string
section
variable {P : Program} {base : List Value} {l : Slots} {w : World} {fn : Func} {R : Ending → World → Prop}
theorem eoK1 {s1 : Tmp} {t u : TypeId} {b1 : Nat} {cs : Array Value} (r : Row w b1 u cs) (hR : R (.returned (.agg cs)) w) (hres : fn.results = #[.cell s1 t] := by exact rfl)
    (ht : ((P.underlying t).map (·.isRow), (P.info? t).map (·.size)) = (some true, some cs.size) := by kernel_rfl) (k1 : lkO base s1 l = pT b1 0 := by kernel_rfl) : EO (bodyPost P fn R) .ret base l w := by
  simp only [Prod.mk.injEq] at ht
  cases hu : P.underlying t with
  | none => rw [hu] at ht; cases ht.1
  | some d =>
    rw [hu] at ht
    have hd : d.isRow = true := by have := ht.1; injection this
    have e1 := loadVar_row r hu hd ht.2
    refine ⟨fun hin => bodyPost_ret (v := .agg cs) ?_ (by rfl) hR⟩
    have h1 : (actO base l).tmps[s1]?.getD undef = pT b1 0 := by have := (congrFun (evO_eq hin) (.tmp s1)).trans k1; simpa [Act.eval] using this
    simp [results, hres, h1, asAddr, e1]
theorem eoK3 {s1 s2 s3 : Tmp} {t u : TypeId} {b1 : Nat} {cs : Array Value} {V2 V3 : Value} (r : Row w b1 u cs) (hR : R (.returned (.tuple #[.agg cs, V2, V3])) w) (hres : fn.results = #[.cell s1 t, .tmp s2, .tmp s3] := by exact rfl)
    (ht : ((P.underlying t).map (·.isRow), (P.info? t).map (·.size)) = (some true, some cs.size) := by kernel_rfl) (k1 : lkO base s1 l = pT b1 0 := by kernel_rfl) (k2 : lkO base s2 l = V2 := by kernel_rfl) (k3 : lkO base s3 l = V3 := by kernel_rfl) : EO (bodyPost P fn R) .ret base l w := by
  simp only [Prod.mk.injEq] at ht
  cases hu : P.underlying t with
  | none => rw [hu] at ht; cases ht.1
  | some d =>
    rw [hu] at ht
    have hd : d.isRow = true := by have := ht.1; injection this
    have e1 := loadVar_row r hu hd ht.2
    refine ⟨fun hin => bodyPost_ret (v := .tuple #[.agg cs, V2, V3]) ?_ (by rfl) hR⟩
    have h1 : (actO base l).tmps[s1]?.getD undef = pT b1 0 := by have := (congrFun (evO_eq hin) (.tmp s1)).trans k1; simpa [Act.eval] using this
    have h2 : (actO base l).tmps[s2]?.getD undef = V2 := by have := (congrFun (evO_eq hin) (.tmp s2)).trans k2; simpa [Act.eval] using this
    have h3 : (actO base l).tmps[s3]?.getD undef = V3 := by have := (congrFun (evO_eq hin) (.tmp s3)).trans k3; simpa [Act.eval] using this
    simp [results, hres, h1, h2, h3, asAddr, e1]
end
theorem Many.wide {w0 w : World} {L L' : List Nat} {rs : List RowK} (h : Many w0 L rs w) (hs : ∀ x ∈ L, x ∈ L') : Many w0 L' rs w :=
  ⟨h.rows, h.dis, fun i r hr => (h.own i r hr).imp (hs _) id, h.touch.os, h.touch.tape, h.touch.output, h.touch.size, fun b hb n => h.touch.block b hb fun e => n (hs b e)⟩
theorem Many.beside {w0 w : World} {L : List Nat} {rs : List RowK} (h : Many w0 L rs w) {b : Nat} (hb : b ∈ L) (hn : ∀ r ∈ rs, r.b ≠ b) (o : Nat) (vs : List Value) : Many w0 L rs (w.setCells b o vs) := by
  have k := setsB b vs o (Besides.refl b b w)
  refine ⟨fun i r hr => ?_, h.dis, h.own, h.touch.trans ⟨k.os, k.tape, k.output, k.size, fun x hx n => k.block x hx (fun e => n (e ▸ hb)) fun e => n (e ▸ hb)⟩⟩
  obtain ⟨full, h1, h2⟩ := h.rows i r hr
  exact ⟨full, Row.setFar (hn r (List.mem_of_getElem? hr)) vs o h1, h2⟩
theorem soW {P : Program} {ops : Array Oper} {Q : Exit → Act → World → Prop} {base : List Value} {l : Slots} {w : World} {S : World → Prop} {n f i : Nat} {listed : Array Bool} {x y : Operand} {b : Nat} {t u : TypeId} {cs ds : Array Value} (hr : Row w b u ds) (hS : S (w.setCells b 0 cs.toList)) (h : PO P ops Q S n base f (listed.setIfInBounds i true) l (w.setCells b 0 cs.toList))
    (h1 : cs.toList.all (·.oneCell') = true) (hsz : ds.size = cs.size) (ho : (opNo ops i).op = .store t x y := by exact rfl) (hx : evO base l x = pT b 0 := by kernel_rfl) (hy : evO base l y = .agg cs := by kernel_rfl) (ht : (P.info? t).map (·.size) = some cs.size := by kernel_rfl)
    (hd : ((opNo ops i).dst.isNone, decide (i < n), wantO ops base.length base l (opNo ops i), (ops[i]?).isSome) = (true, true, some true, true) := by kernel_rfl) : SO P ops Q S n base f listed i l w := by
  simp only [Prod.mk.injEq] at hd
  obtain ⟨d1, d2, d3, d4⟩ := hd
  have ho' := opNo_eq d4
  have hdn : (opNo ops i).dst = none := Option.isNone_iff_eq_none.1 d1
  have e1 : (execOp (evO base l) (opNo ops i)).run P w = .ok .skip (w.setCells b 0 cs.toList) := xStore (run_storeAt_mid w b 0 t cs (hsz ▸ hr.there) ht (by rw [← Array.all_toList]; exact h1)) ho hx hy
  refine ⟨fun hi hr inv => ⟨of_decide_eq_true d2, ?_⟩⟩
  unfold wpOp
  simp only [ho', wantO_sound d3 hi, if_true]
  refine .inl ?_
  unfold Oper.wp
  rw [evO_eq hi, e1, Oper.upon_skip, hdn]
  exact ⟨hS, h.h hi (inv.set hr (of_decide_eq_true d2))⟩
section
variable {P : Program} {ops : Array Oper} {Q : Exit → Act → World → Prop} {S S' : World → Prop} {base : List Value} {l : Slots} {w w0 : World} {rs : List RowK} {L : List Nat}
theorem soX {n f i : Nat} {listed : Array Bool} {V : Value} {w' : World} (hS : S w') (he : (execOp (evO base l) (opNo ops i)).run P w = .ok (.value V) w') (h : PO P ops Q S n base f (listed.setIfInBounds i true) (putO (opNo ops i).dst V l) w')
    (hd : (dstO (opNo ops i).dst base.length, decide (i < n), wantO ops base.length base l (opNo ops i), (ops[i]?).isSome) = (true, true, some true, true) := by kernel_rfl) : SO P ops Q S n base f listed i l w := by
  simp only [Prod.mk.injEq] at hd
  obtain ⟨d1, d2, d3, d4⟩ := hd
  have ho := opNo_eq d4
  refine ⟨fun hi hr inv => ⟨of_decide_eq_true d2, ?_⟩⟩
  unfold wpOp
  simp only [ho, wantO_sound d3 hi, if_true]
  refine .inl ?_
  unfold Oper.wp
  rw [evO_eq hi, he, Oper.upon_value, put_actO]
  exact ⟨hS, h.h (inO_put d1 hi) (inv.set hr (of_decide_eq_true d2))⟩
end
section
variable {P : Program} {Q : Exit → Act → World → Prop} {base : List Value} {l : Slots} {w : World} {α : Type}
def Cut (B : α → List Value) (I : α → World → Prop) (a : Act) (w : World) : Prop := ∃ x, a = actO (B x) [] ∧ I x w
theorem coCut {x y : Code} (B : α → List Value) (I : α → World → Prop) (h : CO P x (Exit.then (Cut B I) Q) base l w) (r : ∀ q w, I q w → CO P y Q (B q) [] w) : CO P (.seq x y) Q base l w := ⟨fun hi => wp_seq (wp_mono (h.h hi) fun e a w' hq => by
  cases e with
  | normal =>
    obtain ⟨q, rfl, hI⟩ := hq
    exact (r q w' hI).h trivial
  | _ => exact hq)⟩
theorem eoCut {B : α → List Value} {I : α → World → Prop} (x : (Nat → Value) → α) (hI : I (x (slotsO base l)) w) (e : ovO base l = B (x (slotsO base l)) := by kernel_rfl) : EO (Exit.then (Cut B I) Q) .normal base l w :=
  ⟨fun hi => ⟨x (slotsO base l), by rw [← e]; rfl, hI⟩⟩
end
theorem Many.startB {w : World} {b c : Nat} {t : TypeId} {cells : Array Value} (hr : Row w b t cells) : Many w [b, c] [⟨b, t, cells.toList.map some⟩] w := (Many.start hr).wide fun x hx => by simp at hx; simp [hx]
theorem low_touch {W w w' : World} {L : List Nat} {rs rs0 : List RowK} (h : Many W [] rs0 w) (k : Many w L rs w') (hL : ∀ b, b ∈ L → W.heap.size ≤ b) : Below W.heap.size W w' := Kept.low h.touch.below (Kept.of_touch k.touch) h.touch.size hL
theorem NewR.trans {a b : World} {o1 o2 o3 : Option Nat} (h : NewR a o1 o2) (k : NewR b o2 o3) (hs : a.heap.size ≤ b.heap.size) : NewR a o1 o3 := by
  rcases k with rfl | ⟨y, e, hy⟩
  · exact h
  · exact .inr ⟨y, e, by omega⟩
theorem NewR.ge {w : World} {o1 o2 : Option Nat} (h : NewR w o1 o2) {b : Nat} (e : o2 = some b) : o1 = some b ∨ w.heap.size ≤ b := by
  rcases h with rfl | ⟨y, e2, hy⟩
  · exact .inl e
  · rw [e2] at e; injection e with e; subst e; exact .inr hy
theorem eiRetM2 {P : Program} {base : List Value} {l : Slots} {w : World} {fn : Func} {R : Ending → World → Prop} {t u : Tmp} {D : Nat} (V U : Value) (hD : w.heap[D]? = some (.deferred (some []))) (hR : R (.returned (.tuple #[V, U])) (w.putObj D (.deferred none))) (h : fn.results = #[.tmp t, .tmp u] := by exact rfl) (hv : lkO base t l = V := by kernel_rfl) (hu : lkO base u l = U := by kernel_rfl) :
    EI [{ target := .collected D, args := #[] }] (bodyPostM Fence.wide 0 P fn R) .ret base l w :=
  ⟨fun hi => ⟨by simp, .inl ⟨D, _, rfl, run_takeDeferred hD, .tuple #[V, U], by
    have e1 : (actI [{ target := .collected D, args := #[] }] base l).tmps.getD t undef = V := (congrFun (evO_eq hi) (.tmp t)).trans hv
    have e2 : (actI [{ target := .collected D, args := #[] }] base l).tmps.getD u undef = U := (congrFun (evO_eq hi) (.tmp u)).trans hu
    rw [results_tmp2 h, e1, e2], hR⟩⟩⟩
def NoPan (Q : Exit → Act → World → Prop) (e : Exit) (a : Act) (w : World) : Prop := (∀ c, e ≠ .panic c) ∧ Q e a w
theorem ciNP {F : Fence} {n : Nat} {ds : List Deferred} {P : Program} {c : Code} {Q : Exit → Act → World → Prop} {base : List Value} {l : Slots} {w : World} (h : CI F n ds P c (NoPan Q) base l w) : CI F n ds P c Q base l w := ⟨fun hi => wpIn_mono (h.h hi) fun e a w hq => hq.2⟩
theorem eiNP {ds : List Deferred} {Q : Exit → Act → World → Prop} {e : Exit} {base : List Value} {l : Slots} {w : World} (h : EI ds Q e base l w) (hn : ∀ c, e ≠ .panic c := by intro c h; cases h) : EI ds (NoPan Q) e base l w := ⟨fun hi => ⟨hn, h.h hi⟩⟩
structure CallO (P : Program) (o : Oper) : Prop where
  nd : ∀ c, o.op ≠ .defer c
  g : ∃ g, ∀ (a : Act) w, ∃ args, (execOp a.eval o).run P w = .ok (.enter g args) w
def mildBut (ops : Array Oper) (k : Nat) : Bool := (List.range ops.size).all fun i => Nat.beq i k || mildO (opNo ops i)
section
variable {F : Fence} {n : Nat} {ds : List Deferred} {P : Program} {ops : Array Oper} {Q : Exit → Act → World → Prop}
theorem oper_inC (hF : Free F) (hT : Tame Q) {o : Oper} (hm : mildO o = true ∨ CallO P o) {a : Act} {w : World} {K K' : Act → World → Prop} (hK : ∀ a w, K a w → K' { a with defers := ds } w)
    (h : o.wp P a w K (Qd ds Q) ∨ (o.asks P a w ∧ LetsOut (Qd ds Q))) : o.wpIn F n P { a with defers := ds } w K' Q := by
  rcases hm with hm | ⟨nd, g, hg⟩
  · exact oper_in hF hT hm hK h
  rcases h with h | ⟨-, a0, w0, h⟩
  · refine ⟨fun f _ => hF.fn f, ?_⟩
    have ev : ({ a with defers := ds } : Act).eval = a.eval := rfl
    rw [Oper.semAt_plain F _ _ nd, ev]
    unfold Oper.wp at h
    obtain ⟨args, he⟩ := hg a w
    rw [he, Oper.upon_enter] at h
    rw [he]
    refine ⟨fun hx => (by rw [hF.depth] at hx; cases hx), (hF.calls h).mono fun e w' hR => ?_⟩
    cases e with
    | returned v =>
      show K' _ _
      rw [put_ds]
      exact hK _ _ hR
    | panicked c => exact hR
    | outgrown => obtain ⟨a0, w0, h⟩ := hR; exact (hT _ _ h).elim
  · exact (hT _ _ h).elim
theorem any_inC (hF : Free F) (hT : Tame Q) {md : Region.Mode} (hm : ∀ (i : Nat) (o : Oper), ops[i]? = some o → mildO o = true ∨ CallO P o) : ∀ (f : Nat) (listed : Array Bool) (a : Act) (w : World), wpAny P md ops (Qd ds Q) f listed a w → wpAnyIn F n P md ops Q f listed { a with defers := ds } w
  | 0, listed, a, w, h => h
  | f + 1, listed, a, w, h => by
    refine ⟨fun e => h.1 e, fun i hi => ?_⟩
    have h2 := h.2 i hi
    unfold wpOp at h2
    unfold wpOpIn
    cases ho : ops[i]? with
    | none => rw [ho] at h2; exact any_inC hF hT hm f _ a w h2
    | some o =>
      rw [ho] at h2
      dsimp only at h2 ⊢
      by_cases hw : Region.wanted o (yielded ops a.tmps) = true
      · rw [if_pos hw] at h2
        rw [if_pos (show Region.wanted o (yielded ops ({ a with defers := ds } : Act).tmps) = true from hw)]
        exact oper_inC hF hT (hm i o ho) (fun a w h => any_inC hF hT hm f _ a w h) h2
      · rw [if_neg hw] at h2
        rw [if_neg (show ¬ Region.wanted o (yielded ops ({ a with defers := ds } : Act).tmps) = true from hw)]
        refine ⟨fun f _ => hF.fn f, ?_⟩
        rw [put_ds]
        exact any_inC hF hT hm f _ _ w h2
theorem ciPCz {base : List Value} {l : Slots} {w : World} (hF : Free F) (hT : Tame Q) {S : World → Prop} {id : Nat} (m k : Nat) (hc : CallO P (opNo ops k)) (hS : S w.drew) (h : PO P ops (Qd ds Q) S m base m (Array.replicate ops.size false) l w.drew)
    (hm : mildBut ops k = true := by kernel_rfl) (hB : partB ops m = true := by kernel_rfl) (hx : P.follows .mixedOrders = true := by kernel_rfl) : CI F n ds P (.region id ops true) Q base l w := ⟨fun hi => by
  have hp := h.h hi
  simp only [partB, Bool.and_eq_true, decide_eq_true_eq] at hB
  obtain ⟨hsel, hn, hs, hc'⟩ := hB
  have inv0 : HeadInv .any ops m (Array.replicate ops.size false) :=
    ⟨by simp, fun j oj _ hl => (by rw [getD_replicate_false] at hl; cases hl), fun t _ ht => getD_in (by simpa using ht) (getD_replicate_false _ _)⟩
  have H := hp inv0
  refine wpIn_region_any hx ?_
  have := wpAny_of_part (g := ops.size - m) (fun listed a w hL => by
    have := wpAny_of_seq (md := .any) (Q' := Qd ds Q) (ops.toList.drop m) m listed a w (fun j => by simp [List.getElem?_drop]) (by simpa using hL.1) hL.2
    simpa using this) _ _ _ _ H
  rw [show m + (ops.size - m) = ops.size by omega] at this
  refine any_inC hF hT (fun i o ho => ?_) _ _ (actO base l) _ this
  by_cases e : i = k
  · subst e
    right
    have e2 : opNo ops i = o := by unfold opNo; rw [ho]; rfl
    rwa [e2] at hc
  · left
    have hi : i < ops.size := (Array.getElem?_eq_some_iff.1 ho).1
    have := List.all_eq_true.1 hm i (List.mem_range.2 hi)
    have e2 : opNo ops i = o := by unfold opNo; rw [ho]; rfl
    rw [e2] at this
    rcases Bool.or_eq_true_iff.1 this with h1 | h1
    · exact absurd (Nat.eq_of_beq_eq_true h1) e
    · exact h1⟩
end
theorem soOwn {P : Program} {ops : Array Oper} {Q : Exit → Act → World → Prop} {base : List Value} {l : Slots} {w : World} {S : World → Prop} {nn f i : Nat} {listed : Array Bool} (s x : Operand) (t e : TypeId) (size bytes : Nat) (z : Value) (bs : Nat) (v : Value) (n : Nat) (xs : List Value) (p : Addr) (m c : Nat) (news : List Value) (hbs : bs ≤ w.heap.size)
    (hown : w.ownsRow bs e size v n xs) (hl : news.length = m * size) (hnews : ∀ j u, news[j]? = some u → w.cell? (p.add j) = some u) (h1 : ∀ u ∈ news, u.oneCell' = true) (hmax : n + m ≤ 1000000) (hby : bytes ≤ 1000)
    (h : ∀ v' w', w'.ownsRow bs e size v' (n + m) (xs ++ news) → w.grownBy w' v.ownBlock → NewR w v.ownBlock v'.ownBlock → S w' ∧ PO P ops Q S nn base f (listed.setIfInBounds i true) (putO (opNo ops i).dst v' l) w')
    (hu : P.underlying t = some (.slice e) := by kernel_rfl) (hi : (P.info? e).map (fun i => (i.zero, i.size, i.bytes)) = some (some z, size, bytes) := by kernel_rfl) (hz : z.cells.size = size := by kernel_rfl) (h0 : 0 < size := by decide)
    (ho : (opNo ops i).op = .call { callee := .builtin .append, args := #[s, x], argTypes := #[t, t] } := by exact rfl) (hs : evO base l s = v := by kernel_rfl) (hx : evO base l x = .slice (some p) m c := by kernel_rfl)
    (hd : (dstO (opNo ops i).dst base.length, decide (i < nn), wantO ops base.length base l (opNo ops i), (ops[i]?).isSome) = (true, true, some true, true) := by kernel_rfl) : SO P ops Q S nn base f listed i l w := by
  obtain ⟨i0, hi0, hz0, hz1, hz2⟩ := info_parts hi
  have hb : (n + m) * bytes ≤ 140737488355328 := by
    have : (n + m) * bytes ≤ 1000000 * 1000 := Nat.mul_le_mul hmax hby
    omega
  obtain ⟨v', w', hr, h2, h3, -, h5⟩ := run_append_own_at (P := P) w bs t (opNo ops i).type e i0 z size bytes hu hi0 hz0 hz1 hz2 hz h0 v n xs hown p m c news hl hnews h1 (by simp only [maxLen]; omega) hb hbs
  have hrun : (execOp (evO base l) (opNo ops i)).run P w = .ok (.value v') w' := by
    unfold execOp
    simp only [ho, resolve, invoke, builtin, Sem.run_bind, Sem.run_pure, Result.andThen_ok, List.map_toArray, List.map_cons, List.map_nil, hs, hx, hr]
  obtain ⟨hS, hp⟩ := h v' w' h2 h3 (by
    rcases h5 with e | e
    · exact .inl e
    · exact .inr ⟨_, e, Nat.le_refl _⟩)
  exact soX hS hrun hp hd
@[reducible] def cyC (c : Cy) : Array Value := #[.int .i64 c.kind, .int .u16 c.addr, .int .u8 c.data, .int .i64 c.t]
@[reducible] def cyV (c : Cy) : Value := .agg (cyC c)
def zeroCy : Cy := ⟨0, 0, 0, 0⟩
end Go.Proofs.YtoifkefonejeiaaDoor
