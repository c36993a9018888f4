/- Contracts and facts that the claim's proof wants (several texts in one). -/
import Derived.OrdersHeld
import Derived.StillTail
import Derived.WalkKit
import Derived.Below
import Derived.RangeFuncBox
import Derived.Deep.MidRow
import Derived.Laws.NewBlocks
import Derived.Laws.Tables
import Derived.Lib.Hide
namespace Go.Proofs.YtoifkefonejeiaaDoor
open Go.RowKit
set_option linter.unusedVariables false
set_option linter.unusedSimpArgs false
set_option maxRecDepth 20000
set_option maxHeartbeats 20000000
section
variable {P : Program} {ops : Array Oper} {md : Region.Mode} {Q : Exit → Act → World → Prop} {S : World → Prop} {n : Nat} {L : Array Bool → Act → World → Prop}
def wpAnyT (P : Program) (md : Region.Mode) (ops : Array Oper) (Q : Exit → Act → World → Prop) (S : World → Prop) (n : Nat) (L : Array Bool → Act → World → Prop) : Nat → Array Bool → Act → World → Prop
  | 0, listed, a, w => L listed a w
  | f + 1, listed, a, w => Region.ready md ops listed ≠ [] ∧
    ∀ i ∈ Region.ready md ops listed, i < n ∧ wpOp P ops Q i (fun a' w' => S w' ∧ wpAnyT P md ops Q S n L f (listed.setIfInBounds i true) a' w') a w
theorem wpAny_of_part {g : Nat} (hL : ∀ listed a w, L listed a w → wpAny P md ops Q g listed a w) :
    ∀ (f : Nat) (listed : Array Bool) (a : Act) (w : World), wpAnyT P md ops Q S n L f listed a w → wpAny P md ops Q (f + g) listed a w
  | 0, listed, a, w, h => by rw [Nat.zero_add]; exact hL _ _ _ h
  | f + 1, listed, a, w, h => by
    rw [show f + 1 + g = (f + g) + 1 by omega]
    exact ⟨fun h0 => absurd h0 h.1, fun i hi => wpOp_mono (fun a' w' h' => wpAny_of_part hL f _ a' w' h'.2) (h.2 i hi).2⟩
theorem wpAnyT_first {i : Nat} {oi : Oper} {v : Value} (hi : ops[i]? = some oi) (hsel : ∀ (j : Nat) (o : Oper) cs b, ops[j]? = some o → o.op ≠ .select cs b)
    (hs : Region.sinkB md ops n = true) (hc : Region.chainB md ops n = true) (hn : n < ops.size) (hin : i < n)
    (hQ : ∀ c a w, Q (.panic c) (a.put oi.dst v) w → Q (.panic c) a w)
    (hdone : ∀ listed a w, L listed a w → ∀ j ∈ Region.ready md ops listed, n ≤ j) :
    ∀ (f : Nat) (listed : Array Bool) (a : Act) (w : World), HeadInv md ops n listed →
      (∀ j oj, ops[j]? = some oj → j ≠ i → listed.getD j true = false → (∀ e ∈ oj.after, Region.binds md e = true → e.on ≠ i) → oi.apart ops oj = true) →
      i ∈ Region.ready md ops listed → YieldsIf P ops S oi v a → S w →
      wpAnyT P md ops Q S n L f (listed.setIfInBounds i true) (a.put oi.dst v) w → wpAnyT P md ops Q S n L (f + 1) listed a w := by
  intro f
  induction f with
  | zero =>
    intro listed a w inv _ hr hy hS H
    refine ⟨fun h => (by rw [h] at hr; cases hr), fun j hj => ?_⟩
    have hjn : j < n := Nat.lt_of_not_le fun h => tail_waits hs hc hn inv _ i rfl hin (mem_ready.1 hr).1 j h hj
    refine ⟨hjn, ?_⟩
    by_cases hji : j = i
    · subst hji; exact hy.wpOp hi hS ⟨hS, H⟩
    · have := hdone _ _ _ H j (ready_mono hj hji)
      omega
  | succ f ih =>
    intro listed a w inv hfree hr hy hS H
    refine ⟨fun h => (by rw [h] at hr; cases hr), fun j hj => ?_⟩
    have hjn : j < n := Nat.lt_of_not_le fun h => tail_waits hs hc hn inv _ i rfl hin (mem_ready.1 hr).1 j h hj
    refine ⟨hjn, ?_⟩
    by_cases hji : j = i
    · subst hji; exact hy.wpOp hi hS ⟨hS, H⟩
    · have h1 := (H.2 j (ready_mono hj hji)).2
      obtain ⟨hjun, oj, hoj, hall⟩ := mem_ready.1 hj
      have hnot : ∀ e ∈ oj.after, Region.binds md e = true → e.on ≠ i := fun e he hb heq => by
        have h1 := hall e he hb
        rw [heq, getD_both (mem_ready.1 hr).1] at h1
        cases h1
      have h2 := wpOp_putIf hoj (hfree j oj hoj hji hjun hnot) (fun cs b => hsel i oi cs b hi) (fun cs b => hsel j oj cs b hoj) hQ hy h1
      have hfree' : ∀ k ok, ops[k]? = some ok → k ≠ i → (listed.setIfInBounds j true).getD k true = false →
          (∀ e ∈ ok.after, Region.binds md e = true → e.on ≠ i) → oi.apart ops ok = true := fun k ok hk hki hun hno => by
        refine hfree k ok hk hki ?_ hno
        by_cases hjk : j = k
        · subst hjk; exact hjun
        · rw [getD_set_ne true hjk] at hun; exact hun
      refine wpOp_mono (fun a' w' h3 => ⟨h3.2.1, ih (listed.setIfInBounds j true) a' w' (inv.set hj hjn) hfree' (ready_mono hr (Ne.symm hji)) h3.1 h3.2.1 ?_⟩) h2
      rw [Array.setIfInBounds_comm _ _ hji]
      exact h3.2.2
def tailL (P : Program) (ops : Array Oper) (Q : Exit → Act → World → Prop) (n : Nat) (listed : Array Bool) (a : Act) (w : World) : Prop :=
  Region.seqB .any ops (ops.size - n) n listed = true ∧ wpList P ops Q (ops.toList.drop n) a w
def partT (P : Program) (ops : Array Oper) (Q : Exit → Act → World → Prop) (S : World → Prop) (n f : Nat) (listed : Array Bool) (a : Act) (w : World) : Prop :=
  HeadInv .any ops n listed → wpAnyT P .any ops Q S n (tailL P ops Q n) f listed a w
def partB (ops : Array Oper) (n : Nat) : Bool := Region.noSelect ops && (decide (n < ops.size) && (Region.sinkB .any ops n && Region.chainB .any ops n))
theorem part_start {id : Nat} {a : Act} {w : World} (n : Nat) (S : World → Prop) (hm : P.follows .mixedOrders = true) (hB : partB ops n = true) (hS : S w.drew)
    (h : ∀ w', w' = w.drew → S w' → partT P ops Q S n n (Array.replicate ops.size false) a w') : (Code.region id ops true).wp P Q a w := by
  simp only [partB, Bool.and_eq_true, decide_eq_true_eq] at hB
  obtain ⟨hsel, hn, hs, hc⟩ := hB
  have inv0 : HeadInv .any ops n (Array.replicate ops.size false) :=
    ⟨by simp, fun j oj _ hl => (by rw [getD_replicate_false] at hl; cases hl), fun t _ ht => getD_in (by simpa using ht) (getD_replicate_false _ _)⟩
  have H := h _ rfl hS inv0
  refine wp_region_any hm ?_
  have := wpAny_of_part (g := ops.size - n) (fun listed a w hL => by
    have := wpAny_of_seq (md := .any) (Q' := Q) (ops.toList.drop n) n listed a w (fun j => by simp [List.getElem?_drop]) (by simpa using hL.1) hL.2
    simpa using this) _ _ _ _ H
  rwa [show n + (ops.size - n) = ops.size by omega] at this
theorem part_take {i f : Nat} {listed : Array Bool} {a : Act} {w : World} {o : Oper} (d : Tmp) (v : Value) (hd : o.dst = some d) (ho : ops[i]? = some o) (hB : partB ops n = true) (hin : decide (i < n) = true) (hf : Region.free .any ops listed i = true)
    (hr : (Region.ready .any ops listed).contains i = true) (hQ : ∀ c a w, Q (.panic c) (a.put o.dst v) w → Q (.panic c) a w) (hw : Region.wanted o (yielded ops a.tmps) = true)
    (he : ∀ w, S w → (execOp a.eval o).run P w = .ok (.value v) w) (hS : S w)
    (h : partT P ops Q S n f (listed.setIfInBounds i true) (a.put (some d) v) w) : partT P ops Q S n (f + 1) listed a w := by
  simp only [partB, Bool.and_eq_true, decide_eq_true_eq] at hB
  obtain ⟨hsel, hn, hs, hc⟩ := hB
  intro inv
  have hr' : i ∈ Region.ready .any ops listed := by simpa using hr
  exact wpAnyT_first ho (Region.noSelect_spec hsel) hs hc hn (of_decide_eq_true hin) hQ (fun listed' a' w' hL => seqB_ready hL.1) f listed a w inv (Region.free_spec ho hf) hr' (.inl ⟨hw, he⟩) hS
    (by rw [hd]; exact h (inv.set hr' (of_decide_eq_true hin)))
theorem part_skip {i f : Nat} {listed : Array Bool} {a : Act} {w : World} {o : Oper} (d : Tmp) (hd : o.dst = some d) (ho : ops[i]? = some o) (hB : partB ops n = true) (hin : decide (i < n) = true) (hf : Region.free .any ops listed i = true)
    (hr : (Region.ready .any ops listed).contains i = true) (hQ : ∀ c a w, Q (.panic c) (a.put o.dst undef) w → Q (.panic c) a w) (hw : Region.wanted o (yielded ops a.tmps) = false) (hS : S w)
    (h : partT P ops Q S n f (listed.setIfInBounds i true) (a.put (some d) undef) w) : partT P ops Q S n (f + 1) listed a w := by
  simp only [partB, Bool.and_eq_true, decide_eq_true_eq] at hB
  obtain ⟨hsel, hn, hs, hc⟩ := hB
  intro inv
  have hr' : i ∈ Region.ready .any ops listed := by simpa using hr
  exact wpAnyT_first ho (Region.noSelect_spec hsel) hs hc hn (of_decide_eq_true hin) hQ (fun listed' a' w' hL => seqB_ready hL.1) f listed a w inv (Region.free_spec ho hf) hr' (.inr ⟨hw, rfl⟩) hS
    (by rw [hd]; exact h (inv.set hr' (of_decide_eq_true hin)))
theorem part_call {i f : Nat} {listed : Array Bool} {a : Act} {w : World} {o : Oper} {g : FuncId} {args : Array Value} {R : Ending → World → Prop} (ho : ops[i]? = some o) (hr : Region.ready .any ops listed = [i]) (hin : decide (i < n) = true)
    (hw : Region.wanted o (yielded ops a.tmps) = true) (he : (execOp a.eval o).run P w = .ok (.enter g args) w) (hc : Calls P g args w R)
    (h : ∀ e w', R e w' → match e with
      | .returned v => S w' ∧ partT P ops Q S n f (listed.setIfInBounds i true) (a.put o.dst v) w'
      | .panicked c => Q (.panic c) a w'
      | .outgrown => False) : partT P ops Q S n (f + 1) listed a w := by
  intro inv
  have hr' : i ∈ Region.ready .any ops listed := by rw [hr]; simp
  refine ⟨by rw [hr]; simp, fun j hj => ?_⟩
  rw [hr] at hj
  have hji : j = i := by simpa using hj
  subst hji
  refine ⟨of_decide_eq_true hin, ?_⟩
  unfold wpOp
  simp only [ho, hw, if_true]
  refine .inl ?_
  unfold Oper.wp
  rw [he, Oper.upon_enter]
  refine hc.mono fun e w' hR => ?_
  have := h e w' hR
  cases e with
  | returned v => exact ⟨this.1, this.2 (inv.set hr' (of_decide_eq_true hin))⟩
  | panicked c => exact this
  | outgrown => exact this.elim
structure WL (P : Program) (ops : Array Oper) (Q : Exit → Act → World → Prop) (l : List Oper) (a : Act) (w : World) : Prop where
  h : wpList P ops Q l a w
theorem regionL {id : Nat} {l : List Oper} {a : Act} {w : World} (h : WL P l.toArray Q l a w) : (Code.region id l.toArray false).wp P Q a w := wp_region_lit h.h
theorem endL {a : Act} {w : World} (h : Q .normal a w) : WL P ops Q [] a w := ⟨wpList_nil h⟩
theorem part_end {listed : Array Bool} {a : Act} {w : World} (hB : Region.seqB .any ops (ops.size - n) n listed = true) (h : WL P ops Q (ops.toList.drop n) a w) : partT P ops Q S n 0 listed a w := fun _ => ⟨hB, h.h⟩
theorem list_call {a : Act} {w : World} {o : Oper} {rest : List Oper} {g : FuncId} {args : Array Value} {R : Ending → World → Prop} (hw : Region.wanted o (yielded ops a.tmps) = true)
    (he : (execOp a.eval o).run P w = .ok (.enter g args) w) (hc : Calls P g args w R)
    (h : ∀ e w', R e w' → match e with
      | .returned v => WL P ops Q rest (a.put o.dst v) w'
      | .panicked c => Q (.panic c) a w'
      | .outgrown => False) : WL P ops Q (o :: rest) a w :=
  ⟨wpList_step fun K hK => by
    rw [if_pos hw]
    unfold Oper.wp
    rw [he, Oper.upon_enter]
    refine hc.mono fun e w' hR => ?_
    have := h e w' hR
    cases e with
    | returned v => exact hK _ _ this.h
    | panicked c => exact this
    | outgrown => exact this.elim⟩
theorem list_take {rest : List Oper} {o : Oper} {a : Act} {w : World} (d : Tmp) (v : Value) (hd : o.dst = some d) (hw : Region.wanted o (yielded ops a.tmps) = true) (he : (execOp a.eval o).run P w = .ok (.value v) w)
    (h : WL P ops Q rest (a.put (some d) v) w) : WL P ops Q (o :: rest) a w :=
  ⟨wpList_step fun K hK => by
    rw [if_pos hw]
    unfold Oper.wp
    rw [he, Oper.upon_value, hd]
    exact hK _ _ h.h⟩
theorem list_skip {rest : List Oper} {o : Oper} {a : Act} {w : World} (d : Tmp) (hd : o.dst = some d) (hw : Region.wanted o (yielded ops a.tmps) = false)
    (h : WL P ops Q rest (a.put (some d) undef) w) : WL P ops Q (o :: rest) a w :=
  ⟨wpList_step fun K hK => by
    rw [if_neg (by rw [hw]; simp), hd]
    exact hK _ _ h.h⟩
theorem list_do {rest : List Oper} {o : Oper} {a : Act} {w w' : World} (hd : o.dst = none) (hw : Region.wanted o (yielded ops a.tmps) = true) (he : (execOp a.eval o).run P w = .ok .skip w')
    (h : WL P ops Q rest (a.put none undef) w') : WL P ops Q (o :: rest) a w :=
  ⟨wpList_step fun K hK => by
    rw [if_pos hw]
    unfold Oper.wp
    rw [he, Oper.upon_skip, hd]
    exact hK _ _ h.h⟩
theorem list_make {rest : List Oper} {o : Oper} {a : Act} {w w' : World} (d : Tmp) (v : Value) (hd : o.dst = some d) (hw : Region.wanted o (yielded ops a.tmps) = true) (he : (execOp a.eval o).run P w = .ok (.value v) w')
    (h : WL P ops Q rest (a.put (some d) v) w') : WL P ops Q (o :: rest) a w :=
  ⟨wpList_step fun K hK => by
    rw [if_pos hw]
    unfold Oper.wp
    rw [he, Oper.upon_value, hd]
    exact hK _ _ h.h⟩
end
theorem add_block (a : Addr) (n : Nat) : (a.add n).block = a.block := by unfold Addr.add; split <;> rfl
theorem add_twice (a : Addr) (i j : Nat) : (a.add i).add j = a.add (i + j) := by
  unfold Addr.add
  by_cases hi : i = 0 <;> by_cases hj : j = 0 <;> simp [hi, hj, Nat.add_assoc]
def BytesIn (w : World) (B : Nat) (A : Option Addr) (xs : List Int) : Prop :=
  ∀ j x, xs[j]? = some x → ∃ ad, A = some ad ∧ ad.block < B ∧ w.cell? (ad.add j) = some (.int .u8 x)
theorem BytesIn.nil (w : World) (B : Nat) (A : Option Addr) : BytesIn w B A [] := fun j x h => by simp at h
theorem BytesIn.keep {w w' : World} {B : Nat} {A : Option Addr} {xs : List Int} (h : BytesIn w B A xs) (k : ∀ b, b < B → w'.heap[b]? = w.heap[b]?) : BytesIn w' B A xs := fun j x hx => by
  obtain ⟨ad, e, hb, hc⟩ := h j x hx
  exact ⟨ad, e, hb, (World.cell?_of_block (by rw [add_block]; exact k _ hb)).trans hc⟩
theorem BytesIn.more {w : World} {B B' : Nat} {A : Option Addr} {xs : List Int} (h : BytesIn w B A xs) (k : B ≤ B') : BytesIn w B' A xs := fun j x hx => by
  obtain ⟨ad, e, hb, hc⟩ := h j x hx
  exact ⟨ad, e, by omega, hc⟩
theorem BytesIn.below {w w' : World} {B : Nat} {A : Option Addr} {xs : List Int} (h : BytesIn w B A xs) (k : Below B w w') : BytesIn w' B A xs := h.keep fun b hb => k.block b hb
theorem BytesIn.drop {w : World} {B : Nat} {A : Option Addr} {xs : List Int} (h : BytesIn w B A xs) {k cap : Nat} (hk : k ≤ xs.length) (hc : xs.length ≤ cap) :
    BytesIn w B (if cap = k then A else A.map (·.add k)) (xs.drop k) := fun j x hx => by
  rw [List.getElem?_drop] at hx
  obtain ⟨ad, rfl, hb, hcell⟩ := h _ x hx
  have hl : k + j < xs.length := (List.getElem?_eq_some_iff.1 hx).1
  rw [if_neg (by omega)]
  exact ⟨ad.add k, rfl, by rw [add_block]; exact hb, by rw [add_twice]; exact hcell⟩
theorem BytesIn.take {w : World} {B : Nat} {A : Option Addr} {xs : List Int} (h : BytesIn w B A xs) (k : Nat) : BytesIn w B A (xs.take k) := fun j x hx => by
  rw [List.getElem?_take] at hx
  split at hx
  · exact h j x hx
  · cases hx
theorem BytesIn.at_ {w : World} {B : Nat} {A : Option Addr} {xs : List Int} (h : BytesIn w B A xs) {k : Nat} (hk : k < xs.length) : ∃ ad, A = some ad ∧ ad.block < B ∧ w.cell? (ad.add k) = some (.int .u8 (xs.getD k 0)) := by
  obtain ⟨ad, e, hb, hc⟩ := h k _ (List.getElem?_eq_getElem hk)
  refine ⟨ad, e, hb, ?_⟩
  rw [hc, List.getD_eq_getElem?_getD, List.getElem?_eq_getElem hk]
  rfl
structure Besides (A S : Nat) (w w' : World) : Prop where
  os : w'.os = w.os
  tape : w'.tape = w.tape
  output : w'.output = w.output
  size : w.heap.size ≤ w'.heap.size
  block : ∀ b, b < w.heap.size → b ≠ A → b ≠ S → w'.heap[b]? = w.heap[b]?
theorem Besides.refl (A S : Nat) (w : World) : Besides A S w w := ⟨rfl, rfl, rfl, Nat.le_refl _, fun _ _ _ _ => rfl⟩
theorem Besides.trans {A S : Nat} {a b c : World} (h : Besides A S a b) (k : Besides A S b c) : Besides A S a c :=
  ⟨k.os.trans h.os, k.tape.trans h.tape, k.output.trans h.output, Nat.le_trans h.size k.size, fun i hi n1 n2 => (k.block i (Nat.lt_of_lt_of_le hi h.size) n1 n2).trans (h.block i hi n1 n2)⟩
theorem Besides.of_below {A S : Nat} {w w' : World} (h : Below w.heap.size w w') : Besides A S w w' := ⟨h.os, h.tape, h.output, h.size, fun b hb _ _ => h.block b hb⟩
theorem Besides.alloc {A S : Nat} {a w : World} (h : Besides A S a w) (o : Obj) : Besides A S a (w.alloc o) :=
  h.trans (.of_below (Below.alloc (Below.refl _ _) (Nat.le_refl _) o))
theorem Besides.setCell {A S : Nat} {a w : World} (h : Besides A S a w) {p : Addr} (hp : p.block = A ∨ p.block = S ∨ a.heap.size ≤ p.block) (u : Value) : Besides A S a (w.setCell p u) :=
  ⟨h.os, h.tape, h.output, by simpa [World.setCell] using h.size, fun b hb n1 n2 => (Below.heap_setCell w p u b (by rcases hp with e | e | e <;> omega)).trans (h.block b hb n1 n2)⟩
theorem Besides.below {A S B : Nat} {w w' : World} (h : Besides A S w w') (hA : B ≤ A) (hS : B ≤ S) (hB : B ≤ w.heap.size) : Below B w w' :=
  ⟨h.os, h.tape, h.output, h.size, fun b hb => h.block b (by omega) (by omega) (by omega)⟩
def Row (w : World) (g : Nat) (t : TypeId) (cs : Array Value) : Prop := w.heap[g]? = some (.cells cs t (0, 0))
theorem Row.lt {w : World} {g : Nat} {t : TypeId} {cs : Array Value} (h : Row w g t cs) : g < w.heap.size := (Array.getElem?_eq_some_iff.1 h).1
theorem Row.cell {w : World} {g : Nat} {t : TypeId} {cs : Array Value} (h : Row w g t cs) (i : Nat) : w.cell? ⟨g, i, none⟩ = cs[i]? := by simp [World.cell?, show w.heap[g]? = _ from h]
theorem Row.frozen {w : World} {g : Nat} {t : TypeId} {cs : Array Value} (h : Row w g t cs) (i : Nat) : w.frozen? ⟨g, i, none⟩ = false := by simp [World.frozen?, show w.heap[g]? = _ from h]
theorem Row.new (w : World) (t : TypeId) (cs : Array Value) : Row (w.alloc (.cells cs t)) w.heap.size t cs := World.alloc_heap_new w _
theorem Row.of {w w' : World} {g : Nat} {t : TypeId} {cs : Array Value} (h : Row w g t cs) (k : w'.heap[g]? = w.heap[g]?) : Row w' g t cs := k.trans h
theorem Row.alloc {w : World} {g : Nat} {t : TypeId} {cs : Array Value} (h : Row w g t cs) (o : Obj) : Row (w.alloc o) g t cs := (Below.heap_alloc w o g h.lt).trans h
theorem Row.set {w : World} {g : Nat} {t : TypeId} {cs : Array Value} (h : Row w g t cs) (i : Nat) (u : Value) : Row (w.setCell ⟨g, i, none⟩ u) g t (cs.setIfInBounds i u) := by
  unfold Row at h ⊢
  simp [World.setCell, Array.getElem?_modify, h]
theorem Row.far {w : World} {g : Nat} {t : TypeId} {cs : Array Value} (h : Row w g t cs) {p : Addr} (hp : g ≠ p.block) (u : Value) : Row (w.setCell p u) g t cs := (Below.heap_setCell w p u g hp).trans h
theorem Row.below {B : Nat} {w w' : World} {g : Nat} {t : TypeId} {cs : Array Value} (h : Row w g t cs) (k : Below B w w') (hB : g < B) : Row w' g t cs := (k.block g hB).trans h
def ovr (cs : Array Value) : Nat → List Value → Array Value
  | _, [] => cs
  | o, v :: r => ovr (cs.setIfInBounds o v) (o + 1) r
theorem ovr_get : ∀ (vs : List Value) (o : Nat) (cs : Array Value) (i : Nat), (ovr cs o vs)[i]? = if o ≤ i ∧ i < o + vs.length ∧ i < cs.size then vs[i - o]? else cs[i]?
  | [], o, cs, i => by
    rw [if_neg (by rintro ⟨h1, h2, h3⟩; simp at h2; omega)]
    rfl
  | v :: r, o, cs, i => by
    rw [ovr, ovr_get r (o + 1) (cs.setIfInBounds o v) i, List.length_cons, Array.size_setIfInBounds, Array.getElem?_setIfInBounds]
    by_cases h1 : o = i
    · subst h1
      rw [if_neg (by omega), if_pos rfl]
      by_cases h3 : o < cs.size
      · rw [if_pos h3, if_pos (by omega), Nat.sub_self]
        rfl
      · rw [if_neg h3, if_neg (by omega), Array.getElem?_eq_none (by omega)]
    · rw [if_neg h1]
      by_cases h2 : o + 1 ≤ i ∧ i < o + 1 + r.length ∧ i < cs.size
      · rw [if_pos h2, if_pos (by omega), show i - o = (i - (o + 1)) + 1 by omega, List.getElem?_cons_succ]
      · rw [if_neg h2, if_neg (by omega)]
theorem ovr_all (cs vs : Array Value) (h : cs.size = vs.size) : ovr cs 0 vs.toList = vs := by
  apply Array.ext_getElem?
  intro i
  rw [ovr_get, Nat.zero_add, Array.length_toList, Nat.sub_zero]
  by_cases hi : i < vs.size
  · rw [if_pos ⟨Nat.zero_le _, hi, by omega⟩]
    simp
  · rw [if_neg (by omega), Array.getElem?_eq_none (by omega), Array.getElem?_eq_none (by omega)]
theorem Row.range {w : World} {b : Nat} {cs : Array Value} {t : TypeId} (h : Row w b t cs) : w.rangeAt b 0 cs.toList := fun j v hv => by
  rw [Nat.zero_add, h.cell j]
  simpa using hv
theorem Row.there {w : World} {b : Nat} {cs : Array Value} {t : TypeId} (h : Row w b t cs) : w.there b 0 cs.size := fun j hj => by
  rw [Nat.zero_add, h.cell j]
  exact ⟨by simp [hj], h.frozen j⟩
section
variable {P : Program}
theorem load_row {t u : TypeId} {w : World} {g : Nat} {cs : Array Value} {d : TypeDesc} (h : Row w g u cs) (hu : P.underlying t = some d) (hd : d.isRow = true) (hi : (P.info? t).map (·.size) = some cs.size) :
    (Instr.loadAt t (.pointer (some ⟨g, 0, none⟩))).run P w = .ok (.agg cs) w :=
  run_loadAt_mid w g 0 t cs.toList d h.range hu hd (by simpa using hi)
theorem loadVar_row {t u : TypeId} {w : World} {g : Nat} {cs : Array Value} {d : TypeDesc} (h : Row w g u cs) (hu : P.underlying t = some d) (hd : d.isRow = true) (hi : (P.info? t).map (·.size) = some cs.size) :
    (loadVar t ⟨g, 0, none⟩).run P w = .ok (.agg cs) w :=
  run_loadVar_mid w g 0 t cs.toList d h.range hu hd (by simpa using hi)
end
theorem Row.setOver {w : World} {g : Nat} {t : TypeId} : ∀ (vs : List Value) (o : Nat) {w : World} {cs : Array Value}, Row w g t cs → Row (w.setCells g o vs) g t (ovr cs o vs)
  | [], _, _, _, h => h
  | v :: r, o, _, _, h => Row.setOver (w := w) r (o + 1) (h.set o v)
theorem Row.setAll {w : World} {g : Nat} {t : TypeId} {cs vs : Array Value} (h : Row w g t cs) (hs : cs.size = vs.size) : Row (w.setCells g 0 vs.toList) g t vs := by
  have := Row.setOver (w := w) vs.toList 0 h
  rwa [ovr_all cs vs hs] at this
theorem Row.setFar {g b : Nat} {t : TypeId} {cs : Array Value} (hb : g ≠ b) : ∀ (vs : List Value) (o : Nat) {w : World}, Row w g t cs → Row (w.setCells b o vs) g t cs
  | [], _, _, h => h
  | v :: r, o, _, h => Row.setFar hb r (o + 1) (h.far (p := ⟨b, o, none⟩) hb v)
abbrev Slots := List (Nat × Value)
def lkO (base : List Value) (t : Nat) : Slots → Value
  | [] => base.getD t undef
  | e :: r => bif Nat.beq e.1 t then e.2 else lkO base t r
def ovO (base : List Value) : Slots → List Value
  | [] => base
  | e :: r => (ovO base r).set e.1 e.2
def actO (base : List Value) (l : Slots) : Act := ⟨(ovO base l).toArray, []⟩
def inO (n : Nat) : Slots → Prop
  | [] => True
  | e :: r => e.1 < n ∧ inO n r
def evO (base : List Value) (l : Slots) : Operand → Value
  | .tmp t => lkO base t l
  | .const v => v
  | .global g => .pointer (some ⟨g, 0, none⟩)
  | .func f => .func (.func f) #[] #[]
def putO (d : Option Nat) (v : Value) (l : Slots) : Slots := match d with | some d => (d, v) :: l | none => l
def dstO (d : Option Nat) (n : Nat) : Bool := match d with | some d => Nat.blt d n | none => true
theorem ovO_length (base : List Value) : ∀ l, (ovO base l).length = base.length
  | [] => rfl
  | e :: r => by rw [ovO, List.length_set]; exact ovO_length base r
theorem lkO_eq {base : List Value} (t : Nat) : ∀ {l : Slots}, inO base.length l → (ovO base l).getD t undef = lkO base t l
  | [], _ => rfl
  | e :: r, h => by
    rw [ovO, lkO]
    by_cases he : e.1 = t
    · subst he
      rw [show Nat.beq e.1 e.1 = true from Nat.beq_refl _, cond_true, List.getD_eq_getElem?_getD, List.getElem?_set_self (by rw [ovO_length]; exact h.1)]
      rfl
    · rw [show Nat.beq e.1 t = false from Bool.eq_false_iff.2 fun h => he (Nat.eq_of_beq_eq_true h), cond_false, List.getD_eq_getElem?_getD, List.getElem?_set_ne he, ← List.getD_eq_getElem?_getD]
      exact lkO_eq t h.2
theorem evO_eq {base : List Value} {l : Slots} (h : inO base.length l) : (actO base l).eval = evO base l := by
  funext x
  cases x with
  | tmp t =>
    show (ovO base l).toArray.getD t undef = lkO base t l
    rw [← lkO_eq t h]
    simp [Array.getD_eq_getD_getElem?, List.getD_eq_getElem?_getD]
  | _ => rfl
theorem put_actO (base : List Value) (l : Slots) (d : Option Nat) (v : Value) : (actO base l).put d v = actO base (putO d v l) := by
  cases d with
  | none => rfl
  | some d => simp [Act.put, actO, putO, ovO]
theorem inO_put {n : Nat} {d : Option Nat} {v : Value} {l : Slots} (hd : dstO d n = true) (h : inO n l) : inO n (putO d v l) := by
  cases d with
  | none => exact h
  | some d => exact ⟨by simpa [dstO, Nat.blt_eq] using hd, h⟩
structure WO (P : Program) (ops : Array Oper) (Q : Exit → Act → World → Prop) (base : List Value) (rest : List Oper) (l : Slots) (w : World) : Prop where
  h : inO base.length l → WL P ops Q rest (actO base l) w
structure CO (P : Program) (c : Code) (Q : Exit → Act → World → Prop) (base : List Value) (l : Slots) (w : World) : Prop where
  h : inO base.length l → c.wp P Q (actO base l) w
structure EO (Q : Exit → Act → World → Prop) (e : Exit) (base : List Value) (l : Slots) (w : World) : Prop where
  h : inO base.length l → Q e (actO base l) w
abbrev Cells := List (Option Value)
structure Ev where
  ok : Bool
  l : Slots
  cs : Cells
  fs : List ((World → Result Next) × (World → Result Next))
  bs : List (Nat × Nat)
structure Ev1 where
  l : Slots
  cs : Cells
  fs : List ((World → Result Next) × (World → Result Next))
  bs : List (Nat × Nat)
def ovL : Cells → Nat → List Value → Cells
  | cs, _, [] => cs
  | cs, k, v :: r => ovL (cs.set k (some v)) (k + 1) r
def allK : Nat → Cells → Option (List Value)
  | 0, _ => some []
  | n + 1, some v :: r => match allK n r with | some vs => some (v :: vs) | none => none
  | _ + 1, _ => none
structure Kn (cs : Cells) (full : Array Value) : Prop where
  size : full.size = cs.length
  at_ : ∀ (k : Nat) (v : Value), cs[k]? = some (some v) → full[k]? = some v
def Same (cs : Cells) (full : Array Value) (cs' : Cells) (full' : Array Value) : Prop := ∀ k : Nat, cs'[k]? = some none → cs[k]? = some none ∧ full'[k]? = full[k]?
theorem Same.refl (cs : Cells) (full : Array Value) : Same cs full cs full := fun _ h => ⟨h, rfl⟩
theorem Same.trans {a b c : Cells} {x y z : Array Value} (h : Same a x b y) (k : Same b y c z) : Same a x c z := fun i hi => ⟨(h i (k i hi).1).1, (k i hi).2.trans (h i (k i hi).1).2⟩
theorem Kn.set {cs : Cells} {full : Array Value} (h : Kn cs full) (k : Nat) (v : Value) : Kn (cs.set k (some v)) (full.setIfInBounds k v) ∧ Same cs full (cs.set k (some v)) (full.setIfInBounds k v) := by
  have hs := h.size
  refine ⟨⟨by simp [hs], fun i u hu => ?_⟩, fun i hi => ?_⟩
  · by_cases e : k = i
    · subst e
      have hlt : k < cs.length := by simpa using (List.getElem?_eq_some_iff.1 hu).1
      rw [List.getElem?_set_self hlt] at hu
      injection hu with hu; injection hu with hu; subst hu
      simp [hs, hlt]
    · rw [List.getElem?_set_ne e] at hu
      rw [Array.getElem?_setIfInBounds_ne e]
      exact h.at_ i u hu
  · by_cases e : k = i
    · subst e
      have hlt : k < cs.length := by simpa using (List.getElem?_eq_some_iff.1 hi).1
      rw [List.getElem?_set_self hlt] at hi
      cases hi
    · rw [List.getElem?_set_ne e] at hi
      exact ⟨hi, Array.getElem?_setIfInBounds_ne e⟩
theorem Kn.over : ∀ (vs : List Value) (cs : Cells) (full : Array Value) (k : Nat), Kn cs full → Kn (ovL cs k vs) (ovr full k vs) ∧ Same cs full (ovL cs k vs) (ovr full k vs)
  | [], _, _, _, h => ⟨h, .refl _ _⟩
  | v :: r, cs, full, k, h => by
    have h1 := h.set k v
    have h2 := Kn.over r _ _ (k + 1) h1.1
    exact ⟨h2.1, h1.2.trans h2.2⟩
theorem allK_at : ∀ (n : Nat) (cs : Cells) (vs : List Value), allK n cs = some vs → vs.length = n ∧ ∀ (j : Nat) (v : Value), vs[j]? = some v → cs[j]? = some (some v)
  | 0, cs, vs, h => by
    injection h with h; subst h
    exact ⟨rfl, fun j v hv => by simp at hv⟩
  | n + 1, [], vs, h => by cases h
  | n + 1, none :: r, vs, h => by cases h
  | n + 1, some u :: r, vs, h => by
    simp only [allK] at h
    split at h
    · rename_i us hus
      injection h with h; subst h
      have ih := allK_at n r us hus
      refine ⟨by simp [ih.1], fun j v hv => ?_⟩
      cases j with
      | zero => simpa using hv
      | succ j => exact ih.2 j v (by simpa using hv)
    · cases h
def rowT (P : Program) (t : TypeId) : Option Nat := match P.underlying t with
  | some d => bif d.isRow then (match (P.info? t).map (·.size) with | some (m + 1) => some (m + 1) | _ => none) else some 0
  | none => none
def wantO (ops : Array Oper) (n : Nat) (base : List Value) (l : Slots) (o : Oper) : Option Bool :=
  match o.guard with
  | none => some true
  | some (j, b) => match ops[j]? with
    | some q => match q.dst with
      | some d => bif Nat.blt d n then (match lkO base d l with | .bool c => some (some c == some b) | _ => some false) else none
      | none => some false
    | none => some false
def ev1 (P : Program) (W : World) (b n : Nat) (base : List Value) (l : Slots) (cs : Cells) (o : Oper) : Option Ev1 :=
  match o.dst, o.op with
  | some d, .move x => bif Nat.blt d n then some ⟨(d, evO base l x) :: l, cs, [], []⟩ else none
  | some d, .assign x => bif Nat.blt d n then some ⟨(d, evO base l x) :: l, cs, [], []⟩ else none
  | some d, .load t x => match evO base l x, rowT P t with
    | .pointer (some ⟨c, k, none⟩), some 0 => match cs[k]? with
      | some (some v) => bif Nat.blt d n then some ⟨(d, v) :: l, cs, [], [(c, b)]⟩ else none
      | _ => none
    | .pointer (some ⟨c, k, none⟩), some (m + 1) => match allK (m + 1) (cs.drop k) with
      | some vs => bif Nat.blt d n then some ⟨(d, .agg vs.toArray) :: l, cs, [], [(c, b)]⟩ else none
      | none => none
    | _, _ => none
  | none, .store t x y => match evO base l x, (P.info? t).map (·.size) with
    | .pointer (some ⟨c, k, none⟩), some 1 => bif (evO base l y).oneCell' && Nat.blt k cs.length then some ⟨l, cs.set k (some (evO base l y)), [], [(c, b)]⟩ else none
    | .pointer (some ⟨c, k, none⟩), some m => match evO base l y with
      | .agg vs => bif (Nat.beq vs.size m && vs.all (·.oneCell')) && Nat.ble (k + vs.size) cs.length then some ⟨l, ovL cs k vs.toList, [], [(c, b)]⟩ else none
      | _ => none
    | _, _ => none
  | some d, op => match (execOp (evO base l) o).run P W with
    | .ok (.value v) _ => bif Nat.blt d n then some ⟨(d, v) :: l, cs, [(fun w => (execOp (evO base l) o).run P w, fun w => .ok (.value v) w)], []⟩ else none
    | _ => none
  | _, _ => none
def evs (P : Program) (ops : Array Oper) (W : World) (b n : Nat) (base : List Value) : List Oper → Slots → Cells → List ((World → Result Next) × (World → Result Next)) → List (Nat × Nat) → Ev
  | [], l, cs, fs, bs => ⟨true, l, cs, fs, bs⟩
  | o :: r, l, cs, fs, bs => match wantO ops n base l o with
    | some true => match ev1 P W b n base l cs o with
      | some e => evs P ops W b n base r e.l e.cs (e.fs ++ fs) (e.bs ++ bs)
      | none => ⟨false, l, cs, fs, bs⟩
    | some false => match o.dst with
      | some d => bif Nat.blt d n then evs P ops W b n base r ((d, undef) :: l) cs fs bs else ⟨false, l, cs, fs, bs⟩
      | none => ⟨false, l, cs, fs, bs⟩
    | none => ⟨false, l, cs, fs, bs⟩
theorem loadOne {P : Program} {w : World} {ad : Addr} {V : Value} {t : TypeId} {d : TypeDesc} (hu : P.underlying t = some d) (hd : d.isRow = false) (hc : w.cell? ad = some V) : (Instr.loadAt t (.pointer (some ad))).run P w = .ok V w := by
  have hagg : (isAgg t).run P w = .ok false w := by
    unfold isAgg
    rw [Sem.run_bind, run_underlying hu w]
    cases d <;> simp_all [TypeDesc.isRow]
  simp [Instr.loadAt, Instr.sureAddr, loadVar, Sem.run_bind, hagg, hc]
theorem storeOne {P : Program} {w : World} {ad : Addr} {V v : Value} {t : TypeId} (hi : (P.info? t).map (·.size) = some 1) (hc : w.cell? ad = some V) (hz : w.frozen? ad = false) (hv : v.oneCell' = true) : (Instr.storeAt t (.pointer (some ad)) v).run P w = .ok () (w.setCell ad v) := by
  cases hq : P.info? t with
  | none => simp [hq] at hi
  | some i =>
    have hs : i.size = 1 := by simpa [hq] using hi
    have hcs : v.cells = #[v] := by cases v <;> simp_all [Value.cells, Value.oneCell']
    simp [Instr.storeAt, Instr.sureAddr, storeVar, sizeOf, typeInfo, hq, hs, hcs, storeCells, Sem.run_bind, run_store, hv, hc, hz, Addr.add]
theorem exMove {P : Program} {ρ : Operand → Value} {o : Oper} {x : Operand} (ho : o.op = .move x ∨ o.op = .assign x) (w : World) : (execOp ρ o).run P w = .ok (.value (ρ x)) w := by
  unfold execOp
  rcases ho with ho | ho <;> simp only [ho, Sem.run_pure]
theorem size_setCells (b : Nat) : ∀ (vs : List Value) (o : Nat) (w : World), (w.setCells b o vs).heap.size = w.heap.size
  | [], _, _ => rfl
  | v :: r, o, w => (size_setCells b r (o + 1) _).trans (by simp [World.setCell])
theorem setsB (b : Nat) {w0 : World} : ∀ (vs : List Value) (o : Nat) {w : World}, Besides b b w0 w → Besides b b w0 (w.setCells b o vs)
  | [], _, _, h => h
  | v :: r, o, _, h => setsB b r (o + 1) (h.setCell (p := ⟨b, o, none⟩) (.inl rfl) v)
section
variable {P : Program} {ops : Array Oper} {Q : Exit → Act → World → Prop} {base : List Value} {rest : List Oper} {l : Slots} {w : World} {o : Oper} {b : Nat} {ty : TypeId} {cs : Cells}
theorem wantO_sound {c : Bool} (h : wantO ops base.length base l o = some c) (hi : inO base.length l) : Region.wanted o (yielded ops (actO base l).tmps) = c := by
  unfold wantO at h
  unfold Region.wanted
  split at h
  · rename_i hg
    injection h with h
    simp only [hg, h]
  · rename_i j b hg
    simp only [hg]
    unfold yielded
    split at h
    · rename_i q hq
      simp only [hq, Option.bind_some]
      split at h
      · rename_i d hd
        simp only [hd, Option.bind_some]
        cases hn : Nat.blt d base.length <;> rw [hn] at h
        · cases h
        · have hlt : d < base.length := by simpa [Nat.blt_eq] using hn
          have hv : (actO base l).tmps[d]? = some (lkO base d l) := by
            rw [← lkO_eq d hi]
            show (ovO base l).toArray[d]? = _
            rw [List.getElem?_toArray, List.getD_eq_getElem?_getD, List.getElem?_eq_getElem (by rw [ovO_length]; exact hlt)]
            rfl
          rw [hv]
          simp only [cond_true] at h
          split at h
          · rename_i x hx
            injection h with h
            simp only [hx, h]
          · rename_i hx
            injection h with h
            subst h
            cases hl : lkO base d l <;> simp_all
      · rename_i hd
        injection h with h
        simp [hd, ← h]
    · rename_i hq
      injection h with h
      simp [hq, ← h]
theorem step1 {d : Nat} {V : Value} (hd : o.dst = some d) (hw : wantO ops base.length base l o = some true) (hn : Nat.blt d base.length = true) (he : (execOp (evO base l) o).run P w = .ok (.value V) w)
    (h : WO P ops Q base rest ((d, V) :: l) w) : WO P ops Q base (o :: rest) l w :=
  ⟨fun hi => list_take d V hd (wantO_sound hw hi) (by rw [evO_eq hi]; exact he) (by rw [put_actO]; exact h.h ⟨by simpa [Nat.blt_eq] using hn, hi⟩)⟩
def noSt (o : Oper) : Bool := match o.op with | .store .. => false | _ => true
theorem ev1_val {W : World} {e : Ev1} (he : ev1 P W b base.length base l cs o = some e) (hs : noSt o = true) (hf : ∀ x ∈ e.fs, x.1 = x.2) (hb : ∀ x ∈ e.bs, x.1 = x.2) :
    ∃ d v, o.dst = some d ∧ Nat.blt d base.length = true ∧ e.l = (d, v) :: l ∧ e.cs = cs ∧ ∀ w full, Row w b ty full → Kn cs full → (execOp (evO base l) o).run P w = .ok (.value v) w := by
  unfold ev1 at he
  split at he
  · rename_i d x hd ho
    cases hn : Nat.blt d base.length <;> rw [hn] at he
    · cases he
    · injection he with he; subst he
      exact ⟨d, _, hd, hn, rfl, rfl, fun w _ _ _ => exMove (.inl ho) w⟩
  · rename_i d x hd ho
    cases hn : Nat.blt d base.length <;> rw [hn] at he
    · cases he
    · injection he with he; subst he
      exact ⟨d, _, hd, hn, rfl, rfl, fun w _ _ _ => exMove (.inr ho) w⟩
  · rename_i d t x hd ho
    split at he
    · rename_i c k hx ht
      split at he
      · rename_i v hv
        cases hn : Nat.blt d base.length <;> rw [hn] at he
        · cases he
        · injection he with he; subst he
          obtain rfl : c = b := hb (c, b) (by simp)
          obtain ⟨D, hu, hD⟩ : ∃ D, P.underlying t = some D ∧ D.isRow = false := by
            unfold rowT at ht
            cases hu : P.underlying t with
            | none => simp [hu] at ht
            | some D =>
              refine ⟨D, rfl, ?_⟩
              cases hD : D.isRow with
              | false => rfl
              | true =>
                simp only [hu, hD, cond_true] at ht
                split at ht <;> simp at ht
          refine ⟨d, v, hd, hn, rfl, rfl, fun w full hr hk => ?_⟩
          unfold execOp
          simp only [ho, hx, Sem.run_bind, Sem.run_pure, loadOne hu hD ((hr.cell k).trans (hk.at_ k v hv)), Result.andThen_ok]
      · cases he
    · rename_i c k m hx ht
      split at he
      · rename_i vs hvs
        cases hn : Nat.blt d base.length <;> rw [hn] at he
        · cases he
        · injection he with he; subst he
          obtain rfl : c = b := hb (c, b) (by simp)
          obtain ⟨hlen, hat⟩ := allK_at _ _ _ hvs
          obtain ⟨D, hu, hD, hs⟩ : ∃ D, P.underlying t = some D ∧ D.isRow = true ∧ (P.info? t).map (·.size) = some (m + 1) := by
            unfold rowT at ht
            cases hu : P.underlying t with
            | none => simp [hu] at ht
            | some D =>
              cases hD : D.isRow with
              | false => simp [hu, hD] at ht
              | true =>
                simp only [hu, hD, cond_true] at ht
                split at ht
                · rename_i j hj
                  injection ht with ht
                  exact ⟨D, rfl, hD, hj.trans (congrArg some ht)⟩
                · cases ht
          refine ⟨d, _, hd, hn, rfl, rfl, fun w full hr hk => ?_⟩
          have hl := run_loadAt_mid (P := P) w c k t vs D (fun j v hv => by
            rw [hr.cell (k + j)]
            have := hat j v hv
            rw [List.getElem?_drop] at this
            exact hk.at_ _ _ this) hu hD (by rw [hs, hlen])
          unfold execOp
          simp only [ho, hx, Sem.run_bind, Sem.run_pure, hl, Result.andThen_ok]
      · cases he
    · cases he
  · rename_i t x y hd ho
    simp [noSt, ho] at hs
  · rename_i d hd n1 n2 n3
    split at he
    · rename_i v w1 hv
      cases hn : Nat.blt d base.length <;> rw [hn] at he
      · cases he
      · injection he with he; subst he
        exact ⟨d, v, hd, hn, rfl, rfl, fun w _ _ _ => congrFun (hf _ List.mem_cons_self) w⟩
    · cases he
  · cases he
theorem ev1_sound {W : World} {e : Ev1} {full : Array Value} (hg : wantO ops base.length base l o = some true) (he : ev1 P W b base.length base l cs o = some e) (hf : ∀ x ∈ e.fs, x.1 = x.2) (hb : ∀ x ∈ e.bs, x.1 = x.2) (hr : Row w b ty full) (hK : Kn cs full)
    (h : ∀ w' full', (noSt o = true → w' = w) → w'.heap.size = w.heap.size → Row w' b ty full' → Kn e.cs full' → Same cs full e.cs full' → Besides b b w w' → WO P ops Q base rest e.l w') : WO P ops Q base (o :: rest) l w := by
  cases hs : noSt o with
  | true =>
    obtain ⟨d, v, hd, hn, el, ec, hv⟩ := ev1_val (ty := ty) he hs hf hb
    have := h w full (fun _ => rfl) rfl hr (by rw [ec]; exact hK) (by rw [ec]; exact .refl _ _) (.refl ..)
    rw [el] at this
    exact step1 hd hg hn (hv w full hr hK) this
  | false =>
    have ho : ∃ t x y, o.op = .store t x y := by
      unfold noSt at hs
      split at hs
      · rename_i t x y ho; exact ⟨t, x, y, ho⟩
      · cases hs
    obtain ⟨t, x, y, ho⟩ := ho
    unfold ev1 at he
    rw [ho] at he
    cases hd : o.dst with
    | some d =>
      rw [hd] at he
      dsimp only at he
      split at he
      · rename_i v w1 hv
        cases hn : Nat.blt d base.length <;> rw [hn] at he
        · cases he
        · injection he with he; subst he
          exact step1 hd hg hn (congrFun (hf _ List.mem_cons_self) w) (h w full (fun e => absurd (hs.symm.trans e) (by decide)) rfl hr hK (.refl _ _) (.refl ..))
      · cases he
    | none =>
    rw [hd] at he
    dsimp only at he
    split at he
    · rename_i c k hx hi
      cases hn : ((evO base l y).oneCell' && Nat.blt k cs.length) <;> rw [hn] at he
      · cases he
      · injection he with he; subst he
        simp only [Bool.and_eq_true, Nat.blt_eq] at hn
        obtain rfl : c = b := hb (c, b) (by simp)
        have h2 := hK.set k (evO base l y)
        have hk := h (w.setCell ⟨c, k, none⟩ (evO base l y)) _ (fun e => absurd (hs.symm.trans e) (by decide)) (by simp [World.setCell]) (hr.set k _) h2.1 h2.2 ((Besides.refl c c w).setCell (.inl rfl) _)
        refine ⟨fun hin => list_do hd (wantO_sound hg hin) (w' := w.setCell ⟨c, k, none⟩ (evO base l y)) ?_ (by rw [put_actO]; exact hk.h hin)⟩
        rw [evO_eq hin]
        unfold execOp
        have hsz := hK.size
        have hcell : w.cell? ⟨c, k, none⟩ = some (full[k]'(by omega)) := by rw [hr.cell k]; simp [hsz, hn.2]
        simp only [ho, hx, Sem.run_bind, Sem.run_pure, storeOne hi hcell (hr.frozen k) hn.1, Result.andThen_ok]
    · rename_i c k m hm hx hi
      split at he
      · rename_i vs hy
        cases hn : ((Nat.beq vs.size m && vs.all (·.oneCell')) && Nat.ble (k + vs.size) cs.length) <;> rw [hn] at he
        · cases he
        · injection he with he; subst he
          simp only [Bool.and_eq_true] at hn
          obtain ⟨⟨hn1, hn2⟩, hn3⟩ := hn
          obtain rfl : c = b := hb (c, b) (by simp)
          have hle : k + vs.size ≤ cs.length := by simpa using hn3
          have hsz : vs.size = m := Nat.eq_of_beq_eq_true hn1
          have hfs := hK.size
          have h2 := Kn.over vs.toList cs full k hK
          have hk := h (w.setCells c k vs.toList) _ (fun e => absurd (hs.symm.trans e) (by decide)) (size_setCells _ _ _ _) (Row.setOver (w := w) vs.toList k hr) h2.1 h2.2 (setsB c vs.toList k (.refl ..))
          refine ⟨fun hin => list_do hd (wantO_sound hg hin) (w' := w.setCells c k vs.toList) ?_ (by rw [put_actO]; exact hk.h hin)⟩
          rw [evO_eq hin]
          unfold execOp
          have hl := run_storeAt_mid (P := P) w c k t vs (fun j hj => ⟨by rw [hr.cell]; simp; omega, hr.frozen _⟩) (by rw [hi, hsz]) hn2
          simp only [ho, hx, hy, Sem.run_bind, Sem.run_pure, hl, Result.andThen_ok]
      · cases he
    · cases he
theorem evs_mem {W : World} : ∀ (os : List Oper) (l : Slots) (cs : Cells) (fs bs), (evs P ops W b base.length base os l cs fs bs).ok = true →
    (∀ x ∈ fs, x ∈ (evs P ops W b base.length base os l cs fs bs).fs) ∧ (∀ x ∈ bs, x ∈ (evs P ops W b base.length base os l cs fs bs).bs)
  | [], _, _, _, _, _ => ⟨fun _ h => h, fun _ h => h⟩
  | o :: r, l, cs, fs, bs, hok => by
    unfold evs at hok ⊢
    split at hok
    · split at hok
      · rename_i e he
        have ih := evs_mem r e.l e.cs (e.fs ++ fs) (e.bs ++ bs) hok
        exact ⟨fun x hx => ih.1 x (List.mem_append_right _ hx), fun x hx => ih.2 x (List.mem_append_right _ hx)⟩
      · cases hok
    · split at hok
      · rename_i d hd
        cases hn : Nat.blt d base.length <;> rw [hn] at hok
        · cases hok
        · exact evs_mem r _ cs fs bs hok
      · cases hok
    · cases hok
theorem pairs_eq {α : Type} : ∀ {l : List (α × α)}, l.map (·.1) = l.map (·.2) → ∀ x ∈ l, x.1 = x.2
  | y :: r, h, x, hx => by
    simp only [List.map_cons, List.cons.injEq] at h
    rcases List.mem_cons.1 hx with e | e
    · subst e; exact h.1
    · exact pairs_eq h.2 x e
def okE (E : Ev) (cs : Cells) : Prop := (E.ok, E.cs, E.fs.map (·.1), E.bs.map (·.1)) = (true, cs, E.fs.map (·.2), E.bs.map (·.2))
theorem coStart {c : Code} (h : CO P c Q base [] w) : c.wp P Q { tmps := base.toArray, defers := [] } w := h.h trivial
theorem coR {id : Nat} {l0 : List Oper} {y : Code} (h : WO P l0.toArray (Exit.then (y.wp P Q) Q) base l0 l w) : CO P (.seq (.region id l0.toArray false) y) Q base l w := ⟨fun hi => wp_seq (regionL (h.h hi))⟩
theorem coZ {id : Nat} {l0 : List Oper} (h : WO P l0.toArray Q base l0 l w) : CO P (.region id l0.toArray false) Q base l w := ⟨fun hi => regionL (h.h hi)⟩
theorem coS {x y : Code} (h : CO P x (Exit.then (y.wp P Q) Q) base l w) : CO P (.seq x y) Q base l w := ⟨fun hi => wp_seq (h.h hi)⟩
theorem woE (h : EO Q .normal base l w) : WO P ops Q base [] l w := ⟨fun hi => endL (h.h hi)⟩
theorem coSkip (h : EO Q .normal base l w) : CO P .skip Q base l w := ⟨fun hi => wp_skip (h.h hi)⟩
theorem coRet (h : EO Q .ret base l w) : CO P .ret Q base l w := ⟨fun hi => wp_ret (h.h hi)⟩
theorem coX {id : Nat} (h : EO Q (.exit id) base l w) : CO P (.exit id) Q base l w := ⟨fun hi => wp_exit (h.h hi)⟩
theorem coB {id : Nat} {c : Code} (h : CO P c (Exit.inBlock id Q) base l w) : CO P (.block id c) Q base l w := ⟨fun hi => wp_block (h.h hi)⟩
theorem coI (t : Bool) {c : Operand} {x y : Code} (ht : t = true → CO P x Q base l w) (hf : t = false → CO P y Q base l w) (hc : evO base l c = .bool t := by kernel_rfl) : CO P (.cond c x y) Q base l w :=
  ⟨fun hi => wp_cond_split (by rw [evO_eq hi]; exact hc) (fun e => (ht e).h hi) fun e => (hf e).h hi⟩
theorem coT {c : Operand} {x y : Code} (ht : CO P x Q base l w) (hc : evO base l c = .bool true := by kernel_rfl) : CO P (.cond c x y) Q base l w := ⟨fun hi => wp_cond_true (by rw [evO_eq hi]; exact hc) (ht.h hi)⟩
theorem coF {c : Operand} {x y : Code} (ht : CO P y Q base l w) (hc : evO base l c = .bool false := by kernel_rfl) : CO P (.cond c x y) Q base l w := ⟨fun hi => wp_cond_false (by rw [evO_eq hi]; exact hc) (ht.h hi)⟩
theorem eoT {y : Code} (h : CO P y Q base l w) : EO (Exit.then (y.wp P Q) Q) .normal base l w := ⟨fun hi => h.h hi⟩
theorem eoTr {N : Act → World → Prop} (h : EO Q .ret base l w) : EO (Exit.then N Q) .ret base l w := ⟨fun hi => h.h hi⟩
theorem eoTx {N : Act → World → Prop} {i : Nat} (h : EO Q (.exit i) base l w) : EO (Exit.then N Q) (.exit i) base l w := ⟨fun hi => h.h hi⟩
theorem eoB {i : Nat} (h : EO Q .normal base l w) : EO (Exit.inBlock i Q) .normal base l w := ⟨fun hi => h.h hi⟩
theorem eoBr {i : Nat} (h : EO Q .ret base l w) : EO (Exit.inBlock i Q) .ret base l w := ⟨fun hi => h.h hi⟩
theorem eoBx {i : Nat} (h : EO Q .normal base l w) : EO (Exit.inBlock i Q) (.exit i) base l w := ⟨fun hi => by simp only [Exit.inBlock, if_true]; exact h.h hi⟩
theorem eoV {fn : Func} {R : Ending → World → Prop} (hR : R (.returned (.tuple #[])) w) (h : fn.results = #[] := by exact rfl) : EO (bodyPost P fn R) .normal base l w := ⟨fun hi => bodyPost_end (results_none h _ _ _) rfl hR⟩
theorem eoIr {fn : Func} {R : Ending → World → Prop} {t : Tmp} (V : Value) (hR : R (.returned V) w) (h : fn.results = #[.tmp t] := by exact rfl) (hv : lkO base t l = V := by kernel_rfl) : EO (bodyPost P fn R) .ret base l w :=
  ⟨fun hi => bodyPost_ret (by rw [results_tmp h, show (actO base l).tmps.getD t undef = V from (congrFun (evO_eq hi) (.tmp t)).trans hv]) rfl hR⟩
theorem woCall {g : FuncId} {args : Array Value} {R : Ending → World → Prop} (hg : wantO ops base.length base l o = some true) (he : (execOp (evO base l) o).run P w = .ok (.enter g args) w) (hd : dstO o.dst base.length = true) (hc : Calls P g args w R)
    (h : ∀ e w', R e w' → match e with
      | .returned v => WO P ops Q base rest (putO o.dst v l) w'
      | .panicked c => EO Q (.panic c) base l w'
      | .outgrown => False) : WO P ops Q base (o :: rest) l w :=
  ⟨fun hi => list_call (wantO_sound hg hi) (by rw [evO_eq hi]; exact he) hc fun e w' hR => by
    have := h e w' hR
    cases e with
    | returned v => dsimp only; rw [put_actO]; exact this.h (inO_put hd hi)
    | panicked c => exact this.h hi
    | outgrown => exact this⟩
theorem kO {V : Value} {g : FuncId} {args : Array Value} {N : World → Prop} (hc : Calls P g args w fun e w' => e = .returned V ∧ N w') (h : ∀ w', N w' → WO P ops Q base rest (putO o.dst V l) w')
    (hg : wantO ops base.length base l o = some true := by kernel_rfl) (he : (execOp (evO base l) o).run P w = .ok (.enter g args) w := by kernel_rfl) (hd : dstO o.dst base.length = true := by kernel_rfl) : WO P ops Q base (o :: rest) l w :=
  woCall hg he hd hc fun e w' ⟨h1, h2⟩ => by subst h1; exact h w' h2
theorem w1 (d : Nat) (V : Value) (he : (execOp (evO base l) o).run P w = .ok (.value V) w) (h : WO P ops Q base rest ((d, V) :: l) w) (hd : o.dst = some d := by exact rfl) (hg : wantO ops base.length base l o = some true := by kernel_rfl) (hn : Nat.blt d base.length = true := by kernel_rfl) : WO P ops Q base (o :: rest) l w :=
  step1 hd hg hn he h
theorem exBin {ρ : Operand → Value} {x y : Operand} {V W R : Value} {op : BinOp} {t r : TypeId} (ho : o.op = .binOp op t x y r) (hx : ρ x = V) (hy : ρ y = W) (hg : ∀ w, (eqGuard op t x y V W).run P w = .ok () w) (hb : ∀ w, (binOp op t V W).run P w = .ok R w) (w : World) : (execOp ρ o).run P w = .ok (.value R) w := by
  unfold execOp
  simp only [ho, hx, hy, Sem.run_bind, Sem.run_pure, hg, hb, Result.andThen_ok]
theorem kBj (d : Nat) {x y : Operand} (V W R : Value) {op : BinOp} {t r : TypeId} (hgd : ∀ w, (eqGuard op t x y V W).run P w = .ok () w) (hb : ∀ w, (binOp op t V W).run P w = .ok R w) (h : WO P ops Q base rest ((d, R) :: l) w)
    (ho : o.op = .binOp op t x y r := by exact rfl) (hx : evO base l x = V := by kernel_rfl) (hy : evO base l y = W := by kernel_rfl) (hd : o.dst = some d := by exact rfl) (hg : wantO ops base.length base l o = some true := by kernel_rfl) (hn : Nat.blt d base.length = true := by kernel_rfl) : WO P ops Q base (o :: rest) l w :=
  step1 hd hg hn (exBin ho hx hy hgd hb w) h
theorem tell (d : Nat) {c b : Bool} (e : c = b) (h : WO P ops Q base rest ((d, .bool b) :: l) w) (hv : lkO base d l = .bool c := by kernel_rfl) (hn : Nat.blt d base.length = true := by kernel_rfl) : WO P ops Q base rest l w :=
  ⟨fun hi => by
    have hlt : d < base.length := by simpa [Nat.blt_eq] using hn
    have := h.h ⟨hlt, hi⟩
    have e2 : actO base ((d, .bool b) :: l) = actO base l := by
      have e3 : (ovO base l).set d (.bool b) = ovO base l := by
        rw [← e, ← hv, ← lkO_eq d hi, List.getD_eq_getElem?_getD, List.getElem?_eq_getElem (by rw [ovO_length]; exact hlt)]
        exact List.set_getElem_self _
      show (⟨((ovO base l).set d (.bool b)).toArray, []⟩ : Act) = ⟨(ovO base l).toArray, []⟩
      rw [e3]
    rwa [e2] at this⟩
structure PO (P : Program) (ops : Array Oper) (Q : Exit → Act → World → Prop) (S : World → Prop) (n : Nat) (base : List Value) (f : Nat) (listed : Array Bool) (l : Slots) (w : World) : Prop where
  h : inO base.length l → partT P ops Q S n f listed (actO base l) w
variable {S : World → Prop}
theorem coP (n : Nat) {id : Nat} {y : Code} (hS : S w.drew) (h : PO P ops (Exit.then (y.wp P Q) Q) S n base n (Array.replicate ops.size false) l w.drew)
    (hB : partB ops n = true := by kernel_rfl) (hm : P.follows .mixedOrders = true := by kernel_rfl) : CO P (.seq (.region id ops true) y) Q base l w :=
  ⟨fun hi => wp_seq (part_start n S hm hB hS fun w' e _ => by subst e; exact h.h hi)⟩
def atO (ops : Array Oper) : List Nat → List Oper
  | [] => []
  | i :: r => match ops[i]? with | some o => o :: atO ops r | none => []
def ordB (ops : Array Oper) (n : Nat) : List Nat → Array Bool → Bool
  | [], _ => true
  | i :: r, listed => (ops[i]?).isSome && (decide (i < n) && (Region.free .any ops listed i && ((Region.ready .any ops listed).contains i && ordB ops n r (listed.setIfInBounds i true))))
def setO : List Nat → Array Bool → Array Bool
  | [], listed => listed
  | i :: r, listed => setO r (listed.setIfInBounds i true)
theorem part_run {W : World} {n : Nat} (hB : partB ops n = true) (hQ : ∀ d v c a w, Q (.panic c) (a.put d v) w → Q (.panic c) a w) (hRow : ∀ w, S w → ∃ full, Row w b ty full ∧ Kn cs full) :
    ∀ (is : List Nat) (f : Nat) (listed : Array Bool) (l : Slots) (fs bs) (w : World), (evs P ops W b base.length base (atO ops is) l cs fs bs).ok = true →
    (∀ x ∈ (evs P ops W b base.length base (atO ops is) l cs fs bs).fs, x.1 = x.2) → (∀ x ∈ (evs P ops W b base.length base (atO ops is) l cs fs bs).bs, x.1 = x.2) →
    (atO ops is).all noSt = true → ordB ops n is listed = true → S w →
    PO P ops Q S n base f (setO is listed) (evs P ops W b base.length base (atO ops is) l cs fs bs).l w → PO P ops Q S n base (f + is.length) listed l w
  | [], f, listed, l, fs, bs, w, _, _, _, _, _, _, h => h
  | i :: r, f, listed, l, fs, bs, w, hok, hf, hb, ha, ho, hS, h => by
    simp only [ordB, Bool.and_eq_true] at ho
    obtain ⟨h1, h2, h3, h4, h5⟩ := ho
    obtain ⟨o, hoi⟩ := Option.isSome_iff_exists.1 h1
    have hat : atO ops (i :: r) = o :: atO ops r := by rw [atO, hoi]
    rw [hat] at hok hf hb ha h
    simp only [List.all_cons, Bool.and_eq_true] at ha
    unfold evs at hok hf hb h
    split at hok
    case h_2 hw =>
      simp only [hw] at hf hb h
      split at hok
      · rename_i d hd
        simp only [hd] at hf hb h
        cases hn : Nat.blt d base.length <;> rw [hn] at hok
        · cases hok
        · simp only [hn, cond_true] at hf hb h
          have := part_run hB hQ hRow r f (listed.setIfInBounds i true) _ fs bs w hok hf hb ha.2 h5 hS h
          refine ⟨fun hi => part_skip d hd hoi hB h2 h3 h4 (by rw [hd]; exact hQ (some d) undef) (wantO_sound hw hi) hS ?_⟩
          rw [put_actO]
          exact this.h ⟨by simpa [Nat.blt_eq] using hn, hi⟩
      · cases hok
    case h_3 => cases hok
    case h_1 hw =>
    simp only [hw] at hf hb h
    split at hok
    · rename_i e he
      simp only [he] at hf hb h
      have hm := evs_mem (atO ops r) e.l e.cs (e.fs ++ fs) (e.bs ++ bs) hok
      obtain ⟨d, v, hd, hn, el, ec, hv⟩ := ev1_val (ty := ty) he ha.1 (fun x hx => hf x (hm.1 x (List.mem_append_left _ hx))) (fun x hx => hb x (hm.2 x (List.mem_append_left _ hx)))
      rw [ec] at hok hf hb h
      have := part_run hB hQ hRow r f (listed.setIfInBounds i true) e.l (e.fs ++ fs) (e.bs ++ bs) w hok hf hb ha.2 h5 hS h
      rw [el] at this
      refine ⟨fun hi => part_take d v hd hoi hB h2 h3 h4 (by rw [hd]; exact hQ (some d) v) (wantO_sound hw hi) (fun w' hs => ?_) hS ?_⟩
      · obtain ⟨full, hr, hk⟩ := hRow w' hs
        rw [evO_eq hi]
        exact hv w' full hr hk
      · rw [put_actO]
        exact this.h ⟨by simpa [Nat.blt_eq] using hn, hi⟩
    · cases hok
theorem poCall {n i f : Nat} {listed : Array Bool} {g : FuncId} {args : Array Value} {R : Ending → World → Prop} (ho : ops[i]? = some o) (hr : Region.ready .any ops listed = [i]) (hin : decide (i < n) = true)
    (hw : wantO ops base.length base l o = some true) (he : (execOp (evO base l) o).run P w = .ok (.enter g args) w) (hd : dstO o.dst base.length = true) (hc : Calls P g args w R)
    (h : ∀ e w', R e w' → match e with
      | .returned v => S w' ∧ PO P ops Q S n base f (listed.setIfInBounds i true) (putO o.dst v l) w'
      | .panicked c => EO Q (.panic c) base l w'
      | .outgrown => False) : PO P ops Q S n base (f + 1) listed l w :=
  ⟨fun hi => part_call ho hr hin (wantO_sound hw hi) (by rw [evO_eq hi]; exact he) hc fun e w' hR => by
    have := h e w' hR
    cases e with
    | returned v => dsimp only; rw [put_actO]; exact ⟨this.1, this.2.h (inO_put hd hi)⟩
    | panicked c => exact this.h hi
    | outgrown => exact this⟩
theorem poE {n : Nat} {listed : Array Bool} (h : WO P ops Q base (ops.toList.drop n) l w) (hB : Region.seqB .any ops (ops.size - n) n listed = true := by kernel_rfl) : PO P ops Q S n base 0 listed l w := ⟨fun hi => part_end hB (h.h hi)⟩
end
end Go.Proofs.YtoifkefonejeiaaDoor
