/- In a region that draws its order, under a condition on the world that is kept (Derived/OrdersHeld): an operation that yields its value, a load of a block known whole, a call by its contract, each at one step. Nothing of the program. -/
import Derived.Test.YtpiadeedgjmmkaaDoorWhole
import Derived.Deep.RegionHeld3
namespace Go.Proofs.YtpiadeedgjmmkaaDoor
open Go.RowKit
set_option linter.unusedVariables false

section
variable {P : Program} {ops : Array Oper} {Q : Exit → Act → World → Prop} {md : Region.Mode} {S : World → Prop} {fuel : Nat} {listed : Array Bool} {a : Act} {w : World}
/-- an operation that yields its value in every world that meets S -/
theorem heldTake {i : Nat} {o : Oper} (d : Tmp) (v : Value) (hd : o.dst = some d) (ho : ops[i]? = some o) (hs : Region.noSelect ops = true) (hf : Region.free md ops listed i = true) (hr : (Region.ready md ops listed).contains i = true)
    (hQ : ∀ c a w, Q (.panic c) (a.put o.dst v) w → Q (.panic c) a w) (hw : Region.wanted o (yielded ops a.tmps) = true) (he : ∀ w, S w → (execOp a.eval o).run P w = .ok (.value v) w) (hS : S w)
    (h : wpAnyH P md ops Q S fuel (listed.setIfInBounds i true) (a.put (some d) v) w) : wpAnyH P md ops Q S (fuel + 1) listed a w :=
  wpAnyH_take ho hs hf hr hQ (.inl ⟨hw, he⟩) hS (by rw [hd]; exact h)
/-- one that isn't wanted -/
theorem heldSkip {i : Nat} {o : Oper} (d : Tmp) (hd : o.dst = some d) (ho : ops[i]? = some o) (hs : Region.noSelect ops = true) (hf : Region.free md ops listed i = true) (hr : (Region.ready md ops listed).contains i = true)
    (hQ : ∀ c a w, Q (.panic c) (a.put o.dst undef) w → Q (.panic c) a w) (hw : Region.wanted o (yielded ops a.tmps) = false) (hS : S w)
    (h : wpAnyH P md ops Q S fuel (listed.setIfInBounds i true) (a.put (some d) undef) w) : wpAnyH P md ops Q S (fuel + 1) listed a w :=
  wpAnyH_take ho hs hf hr hQ (.inr ⟨hw, rfl⟩) hS (by rw [hd]; exact h)
/-- a load of a block known whole -/
theorem run_load_held {o : Oper} (ty : TypeId) (x : Operand) (ho : o.op = .load ty x)
    (g : Nat) (u : TypeId) (cs : Array Value) (hx : a.eval x = .pointer (some ⟨g, 0, none⟩)) (hS : ∀ w, S w → Row w g u cs) (d : TypeDesc) (hu : P.underlying ty = some d) (hd : d.isRow = true) (hi : (P.info? ty).map (·.size) = some cs.size) :
    ∀ w, S w → (execOp a.eval o).run P w = .ok (.value (.agg cs)) w := fun w hw' => by
  unfold execOp
  simp only [ho, hx, Instr.loadAt, Instr.sureAddr, Sem.run_bind, Sem.run_pure, Result.andThen_ok, loadVar_row (hS w hw') hu hd hi]
/-- what the operations yield -/
theorem run_move_held {o : Oper} {x : Operand} {v : Value} (ho : o.op = .move x ∨ o.op = .assign x) (hx : a.eval x = v) : ∀ w, S w → (execOp a.eval o).run P w = .ok (.value v) w := fun w _ => by
  unfold execOp
  rcases ho with ho | ho <;> simp only [ho, hx, Sem.run_pure]
theorem run_pick_held {o : Oper} {c x y : Operand} {b : Bool} {v : Value} (ho : o.op = .pick c x y) (hc : a.eval c = .bool b) (hv : (if b = true then a.eval x else a.eval y) = v) : ∀ w, S w → (execOp a.eval o).run P w = .ok (.value v) w := fun w _ => by
  unfold execOp
  simp only [ho, hc, ← hv, asBool, Sem.run_bind, Sem.run_pure, Result.andThen_ok]
theorem run_bin_held {o : Oper} {op : BinOp} {t r : TypeId} {x y : Operand} {V W v : Value} (ho : o.op = .binOp op t x y r) (hx : a.eval x = V) (hy : a.eval y = W)
    (hg : ∀ w, (eqGuard op t x y V W).run P w = .ok () w) (hb : ∀ w, (binOp op t V W).run P w = .ok v w) : ∀ w, S w → (execOp a.eval o).run P w = .ok (.value v) w := fun w _ => by
  unfold execOp
  simp only [ho, hx, hy, Sem.run_bind, Sem.run_pure, hg, hb, Result.andThen_ok]
/-- a call, the only operation that may come up now -/
theorem heldCall {i : Nat} {o : Oper} {f : FuncId} {args : Array Value} (d : Tmp) (V : Value) (hd : o.dst = some d) (ho : ops[i]? = some o) (hr : Region.ready md ops listed = [i]) (hw : Region.wanted o (yielded ops a.tmps) = true)
    (he : (execOp a.eval o).run P w = .ok (.enter f args) w) (hc : Calls P f args w fun e w' => e = .returned V ∧ Below w.heap.size w w') (hS : S w) (hk : ∀ w', S w → Below w.heap.size w w' → S w')
    (h : ∀ w', S w' → wpAnyH P md ops Q S fuel (listed.setIfInBounds i true) (a.put (some d) V) w') : wpAnyH P md ops Q S (fuel + 1) listed a w := by
  refine wpAnyH_ready (rs := [i]) hr (by simp) (AllReadyH.cons ho (fun K hK => ?_) AllReadyH.nil)
  rw [if_pos hw]
  unfold Oper.wp
  rw [he, Oper.upon_enter]
  refine hc.mono ?_
  rintro e w' ⟨rfl, hb⟩
  have hS' := hk w' hS hb
  exact hK.out _ _ hS' (fun _ => by rw [hd]; exact h w' hS')
/-- the beginning -/
theorem held_start {id : Nat} (S : World → Prop) (hm : P.follows .mixedOrders = true) (hk : ∀ w', S w' → S w'.drew) (hS : S w)
    (h : ∀ w', S w' → wpAnyH P .any ops Q S ops.size (Array.replicate ops.size false) a w') : (Code.region id ops true).wp P Q a w :=
  wp_region_held_drew (S := S) hm (hk w hS) (fun hS' => h _ hS')
/-- the same at the list of a region whose order is fixed -/
theorem listTake {rest : List Oper} {o : Oper} (d : Tmp) (v : Value) (hd : o.dst = some d) (hw : Region.wanted o (yielded ops a.tmps) = true) (he : ∀ w, S w → (execOp a.eval o).run P w = .ok (.value v) w) (hS : S w)
    (h : wpList P ops Q rest (a.put (some d) v) w) : wpList P ops Q (o :: rest) a w :=
  wpList_step fun K hK => by
    rw [if_pos hw]
    unfold Oper.wp
    rw [he w hS, Oper.upon_value, hd]
    exact hK _ _ h
theorem listSkip {rest : List Oper} {o : Oper} (d : Tmp) (hd : o.dst = some d) (hw : Region.wanted o (yielded ops a.tmps) = false)
    (h : wpList P ops Q rest (a.put (some d) undef) w) : wpList P ops Q (o :: rest) a w :=
  wpList_step fun K hK => by
    rw [if_neg (by rw [hw]; simp), hd]
    exact hK _ _ h
theorem listCall {rest : List Oper} {o : Oper} {f : FuncId} {args : Array Value} (d : Tmp) (V : Value) (hd : o.dst = some d) (hw : Region.wanted o (yielded ops a.tmps) = true)
    (he : (execOp a.eval o).run P w = .ok (.enter f args) w) (hc : Calls P f args w fun e w' => e = .returned V ∧ Below w.heap.size w w') (hS : S w) (hk : ∀ w', S w → Below w.heap.size w w' → S w')
    (h : ∀ w', S w' → wpList P ops Q rest (a.put (some d) V) w') : wpList P ops Q (o :: rest) a w :=
  wpList_step fun K hK => by
    rw [if_pos hw]
    unfold Oper.wp
    rw [he, Oper.upon_enter]
    refine hc.mono ?_
    rintro e w' ⟨rfl, hb⟩
    rw [hd]
    exact hK _ _ (h w' (hk w' hS hb))
end
end Go.Proofs.YtpiadeedgjmmkaaDoor
