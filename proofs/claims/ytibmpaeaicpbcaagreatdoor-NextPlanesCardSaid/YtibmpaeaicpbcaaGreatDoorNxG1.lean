/- Contracts and facts that the claim's proof wants (several texts in one). -/
import Derived.OrdersHeld
import Derived.StillTail
import Derived.WalkKit
import Derived.Below
import Derived.RangeFuncBox
import Derived.Deep.MidRow
import Derived.Laws.NewBlocks
import Derived.Laws.Tables
import Derived.Lib.Hide
import Derived.Test.YtibmpaeaicpbcaaGreatDoorChecked
import Derived.WalkLawsBesides
import Derived.WalkSpells
import Derived.Outline
import Derived.Laws.BitsAllLaws
import Derived.Laws.BitsLemmas
import Derived.LoopTactic
import Derived.RangeFuncNested
import Derived.RangeFuncBound
import Derived.RangeFuncCalls
import Derived.RangeFuncLeaves
import Derived.Shelf.Abstract
import Derived.Shelf.RegionOpen
import Derived.OwnWalkIn
import Derived.TacticsInMore
import Derived.LoopNIn
import Derived.LoopIn
import Derived.Handy
import Derived.ChangeKeysEq
import Derived.Laws.Rows
namespace Go.Proofs.YtibmpaeaicpbcaaGreatDoor
open Go.RowKit
set_option linter.unusedVariables false
set_option linter.unusedSimpArgs false
set_option maxRecDepth 20000
set_option maxHeartbeats 20000000
section
variable {P : Program} {ops : Array Oper} {md : Region.Mode} {Q : Exit → Act → World → Prop} {S : World → Prop} {n : Nat} {L : Array Bool → Act → World → Prop}
def wpAnyT (P : Program) (md : Region.Mode) (ops : Array Oper) (Q : Exit → Act → World → Prop) (S : World → Prop) (n : Nat) (L : Array Bool → Act → World → Prop) : Nat → Array Bool → Act → World → Prop
  | 0, listed, a, w => L listed a w
  | f + 1, listed, a, w => Region.ready md ops listed ≠ [] ∧
    ∀ i ∈ Region.ready md ops listed, i < n ∧ wpOp P ops Q i (fun a' w' => S w' ∧ wpAnyT P md ops Q S n L f (listed.setIfInBounds i true) a' w') a w
theorem wpAny_of_part {g : Nat} (hL : ∀ listed a w, L listed a w → wpAny P md ops Q g listed a w) :
    ∀ (f : Nat) (listed : Array Bool) (a : Act) (w : World), wpAnyT P md ops Q S n L f listed a w → wpAny P md ops Q (f + g) listed a w
  | 0, listed, a, w, h => by rw [Nat.zero_add]; exact hL _ _ _ h
  | f + 1, listed, a, w, h => by
    rw [show f + 1 + g = (f + g) + 1 by omega]
    exact ⟨fun h0 => absurd h0 h.1, fun i hi => wpOp_mono (fun a' w' h' => wpAny_of_part hL f _ a' w' h'.2) (h.2 i hi).2⟩
theorem wpAnyT_first {i : Nat} {oi : Oper} {v : Value} (hi : ops[i]? = some oi) (hsel : ∀ (j : Nat) (o : Oper) cs b, ops[j]? = some o → o.op ≠ .select cs b)
    (hs : Region.sinkB md ops n = true) (hc : Region.chainB md ops n = true) (hn : n < ops.size) (hin : i < n)
    (hQ : ∀ c a w, Q (.panic c) (a.put oi.dst v) w → Q (.panic c) a w)
    (hdone : ∀ listed a w, L listed a w → ∀ j ∈ Region.ready md ops listed, n ≤ j) :
    ∀ (f : Nat) (listed : Array Bool) (a : Act) (w : World), HeadInv md ops n listed →
      (∀ j oj, ops[j]? = some oj → j ≠ i → listed.getD j true = false → (∀ e ∈ oj.after, Region.binds md e = true → e.on ≠ i) → oi.apart ops oj = true) →
      i ∈ Region.ready md ops listed → YieldsIf P ops S oi v a → S w →
      wpAnyT P md ops Q S n L f (listed.setIfInBounds i true) (a.put oi.dst v) w → wpAnyT P md ops Q S n L (f + 1) listed a w := by
  intro f
  induction f with
  | zero =>
    intro listed a w inv _ hr hy hS H
    refine ⟨fun h => (by rw [h] at hr; cases hr), fun j hj => ?_⟩
    have hjn : j < n := Nat.lt_of_not_le fun h => tail_waits hs hc hn inv _ i rfl hin (mem_ready.1 hr).1 j h hj
    refine ⟨hjn, ?_⟩
    by_cases hji : j = i
    · subst hji; exact hy.wpOp hi hS ⟨hS, H⟩
    · have := hdone _ _ _ H j (ready_mono hj hji)
      omega
  | succ f ih =>
    intro listed a w inv hfree hr hy hS H
    refine ⟨fun h => (by rw [h] at hr; cases hr), fun j hj => ?_⟩
    have hjn : j < n := Nat.lt_of_not_le fun h => tail_waits hs hc hn inv _ i rfl hin (mem_ready.1 hr).1 j h hj
    refine ⟨hjn, ?_⟩
    by_cases hji : j = i
    · subst hji; exact hy.wpOp hi hS ⟨hS, H⟩
    · have h1 := (H.2 j (ready_mono hj hji)).2
      obtain ⟨hjun, oj, hoj, hall⟩ := mem_ready.1 hj
      have hnot : ∀ e ∈ oj.after, Region.binds md e = true → e.on ≠ i := fun e he hb heq => by
        have h1 := hall e he hb
        rw [heq, getD_both (mem_ready.1 hr).1] at h1
        cases h1
      have h2 := wpOp_putIf hoj (hfree j oj hoj hji hjun hnot) (fun cs b => hsel i oi cs b hi) (fun cs b => hsel j oj cs b hoj) hQ hy h1
      have hfree' : ∀ k ok, ops[k]? = some ok → k ≠ i → (listed.setIfInBounds j true).getD k true = false →
          (∀ e ∈ ok.after, Region.binds md e = true → e.on ≠ i) → oi.apart ops ok = true := fun k ok hk hki hun hno => by
        refine hfree k ok hk hki ?_ hno
        by_cases hjk : j = k
        · subst hjk; exact hjun
        · rw [getD_set_ne true hjk] at hun; exact hun
      refine wpOp_mono (fun a' w' h3 => ⟨h3.2.1, ih (listed.setIfInBounds j true) a' w' (inv.set hj hjn) hfree' (ready_mono hr (Ne.symm hji)) h3.1 h3.2.1 ?_⟩) h2
      rw [Array.setIfInBounds_comm _ _ hji]
      exact h3.2.2
def tailL (P : Program) (ops : Array Oper) (Q : Exit → Act → World → Prop) (n : Nat) (listed : Array Bool) (a : Act) (w : World) : Prop :=
  Region.seqB .any ops (ops.size - n) n listed = true ∧ wpList P ops Q (ops.toList.drop n) a w
def partT (P : Program) (ops : Array Oper) (Q : Exit → Act → World → Prop) (S : World → Prop) (n f : Nat) (listed : Array Bool) (a : Act) (w : World) : Prop :=
  HeadInv .any ops n listed → wpAnyT P .any ops Q S n (tailL P ops Q n) f listed a w
def partB (ops : Array Oper) (n : Nat) : Bool := Region.noSelect ops && (decide (n < ops.size) && (Region.sinkB .any ops n && Region.chainB .any ops n))
theorem part_start {id : Nat} {a : Act} {w : World} (n : Nat) (S : World → Prop) (hm : P.follows .mixedOrders = true) (hB : partB ops n = true) (hS : S w.drew)
    (h : ∀ w', w' = w.drew → S w' → partT P ops Q S n n (Array.replicate ops.size false) a w') : (Code.region id ops true).wp P Q a w := by
  simp only [partB, Bool.and_eq_true, decide_eq_true_eq] at hB
  obtain ⟨hsel, hn, hs, hc⟩ := hB
  have inv0 : HeadInv .any ops n (Array.replicate ops.size false) :=
    ⟨by simp, fun j oj _ hl => (by rw [getD_replicate_false] at hl; cases hl), fun t _ ht => getD_in (by simpa using ht) (getD_replicate_false _ _)⟩
  have H := h _ rfl hS inv0
  refine wp_region_any hm ?_
  have := wpAny_of_part (g := ops.size - n) (fun listed a w hL => by
    have := wpAny_of_seq (md := .any) (Q' := Q) (ops.toList.drop n) n listed a w (fun j => by simp [List.getElem?_drop]) (by simpa using hL.1) hL.2
    simpa using this) _ _ _ _ H
  rwa [show n + (ops.size - n) = ops.size by omega] at this
theorem part_take {i f : Nat} {listed : Array Bool} {a : Act} {w : World} {o : Oper} (d : Tmp) (v : Value) (hd : o.dst = some d) (ho : ops[i]? = some o) (hB : partB ops n = true) (hin : decide (i < n) = true) (hf : Region.free .any ops listed i = true)
    (hr : (Region.ready .any ops listed).contains i = true) (hQ : ∀ c a w, Q (.panic c) (a.put o.dst v) w → Q (.panic c) a w) (hw : Region.wanted o (yielded ops a.tmps) = true)
    (he : ∀ w, S w → (execOp a.eval o).run P w = .ok (.value v) w) (hS : S w)
    (h : partT P ops Q S n f (listed.setIfInBounds i true) (a.put (some d) v) w) : partT P ops Q S n (f + 1) listed a w := by
  simp only [partB, Bool.and_eq_true, decide_eq_true_eq] at hB
  obtain ⟨hsel, hn, hs, hc⟩ := hB
  intro inv
  have hr' : i ∈ Region.ready .any ops listed := by simpa using hr
  exact wpAnyT_first ho (Region.noSelect_spec hsel) hs hc hn (of_decide_eq_true hin) hQ (fun listed' a' w' hL => seqB_ready hL.1) f listed a w inv (Region.free_spec ho hf) hr' (.inl ⟨hw, he⟩) hS
    (by rw [hd]; exact h (inv.set hr' (of_decide_eq_true hin)))
theorem part_skip {i f : Nat} {listed : Array Bool} {a : Act} {w : World} {o : Oper} (d : Tmp) (hd : o.dst = some d) (ho : ops[i]? = some o) (hB : partB ops n = true) (hin : decide (i < n) = true) (hf : Region.free .any ops listed i = true)
    (hr : (Region.ready .any ops listed).contains i = true) (hQ : ∀ c a w, Q (.panic c) (a.put o.dst undef) w → Q (.panic c) a w) (hw : Region.wanted o (yielded ops a.tmps) = false) (hS : S w)
    (h : partT P ops Q S n f (listed.setIfInBounds i true) (a.put (some d) undef) w) : partT P ops Q S n (f + 1) listed a w := by
  simp only [partB, Bool.and_eq_true, decide_eq_true_eq] at hB
  obtain ⟨hsel, hn, hs, hc⟩ := hB
  intro inv
  have hr' : i ∈ Region.ready .any ops listed := by simpa using hr
  exact wpAnyT_first ho (Region.noSelect_spec hsel) hs hc hn (of_decide_eq_true hin) hQ (fun listed' a' w' hL => seqB_ready hL.1) f listed a w inv (Region.free_spec ho hf) hr' (.inr ⟨hw, rfl⟩) hS
    (by rw [hd]; exact h (inv.set hr' (of_decide_eq_true hin)))
theorem part_call {i f : Nat} {listed : Array Bool} {a : Act} {w : World} {o : Oper} {g : FuncId} {args : Array Value} {R : Ending → World → Prop} (ho : ops[i]? = some o) (hr : Region.ready .any ops listed = [i]) (hin : decide (i < n) = true)
    (hw : Region.wanted o (yielded ops a.tmps) = true) (he : (execOp a.eval o).run P w = .ok (.enter g args) w) (hc : Calls P g args w R)
    (h : ∀ e w', R e w' → match e with
      | .returned v => S w' ∧ partT P ops Q S n f (listed.setIfInBounds i true) (a.put o.dst v) w'
      | .panicked c => Q (.panic c) a w'
      | .outgrown => False) : partT P ops Q S n (f + 1) listed a w := by
  intro inv
  have hr' : i ∈ Region.ready .any ops listed := by rw [hr]; simp
  refine ⟨by rw [hr]; simp, fun j hj => ?_⟩
  rw [hr] at hj
  have hji : j = i := by simpa using hj
  subst hji
  refine ⟨of_decide_eq_true hin, ?_⟩
  unfold wpOp
  simp only [ho, hw, if_true]
  refine .inl ?_
  unfold Oper.wp
  rw [he, Oper.upon_enter]
  refine hc.mono fun e w' hR => ?_
  have := h e w' hR
  cases e with
  | returned v => exact ⟨this.1, this.2 (inv.set hr' (of_decide_eq_true hin))⟩
  | panicked c => exact this
  | outgrown => exact this.elim
structure WL (P : Program) (ops : Array Oper) (Q : Exit → Act → World → Prop) (l : List Oper) (a : Act) (w : World) : Prop where
  h : wpList P ops Q l a w
theorem regionL {id : Nat} {l : List Oper} {a : Act} {w : World} (h : WL P l.toArray Q l a w) : (Code.region id l.toArray false).wp P Q a w := wp_region_lit h.h
theorem endL {a : Act} {w : World} (h : Q .normal a w) : WL P ops Q [] a w := ⟨wpList_nil h⟩
theorem part_end {listed : Array Bool} {a : Act} {w : World} (hB : Region.seqB .any ops (ops.size - n) n listed = true) (h : WL P ops Q (ops.toList.drop n) a w) : partT P ops Q S n 0 listed a w := fun _ => ⟨hB, h.h⟩
theorem list_call {a : Act} {w : World} {o : Oper} {rest : List Oper} {g : FuncId} {args : Array Value} {R : Ending → World → Prop} (hw : Region.wanted o (yielded ops a.tmps) = true)
    (he : (execOp a.eval o).run P w = .ok (.enter g args) w) (hc : Calls P g args w R)
    (h : ∀ e w', R e w' → match e with
      | .returned v => WL P ops Q rest (a.put o.dst v) w'
      | .panicked c => Q (.panic c) a w'
      | .outgrown => False) : WL P ops Q (o :: rest) a w :=
  ⟨wpList_step fun K hK => by
    rw [if_pos hw]
    unfold Oper.wp
    rw [he, Oper.upon_enter]
    refine hc.mono fun e w' hR => ?_
    have := h e w' hR
    cases e with
    | returned v => exact hK _ _ this.h
    | panicked c => exact this
    | outgrown => exact this.elim⟩
theorem list_take {rest : List Oper} {o : Oper} {a : Act} {w : World} (d : Tmp) (v : Value) (hd : o.dst = some d) (hw : Region.wanted o (yielded ops a.tmps) = true) (he : (execOp a.eval o).run P w = .ok (.value v) w)
    (h : WL P ops Q rest (a.put (some d) v) w) : WL P ops Q (o :: rest) a w :=
  ⟨wpList_step fun K hK => by
    rw [if_pos hw]
    unfold Oper.wp
    rw [he, Oper.upon_value, hd]
    exact hK _ _ h.h⟩
theorem list_skip {rest : List Oper} {o : Oper} {a : Act} {w : World} (d : Tmp) (hd : o.dst = some d) (hw : Region.wanted o (yielded ops a.tmps) = false)
    (h : WL P ops Q rest (a.put (some d) undef) w) : WL P ops Q (o :: rest) a w :=
  ⟨wpList_step fun K hK => by
    rw [if_neg (by rw [hw]; simp), hd]
    exact hK _ _ h.h⟩
theorem list_do {rest : List Oper} {o : Oper} {a : Act} {w w' : World} (hd : o.dst = none) (hw : Region.wanted o (yielded ops a.tmps) = true) (he : (execOp a.eval o).run P w = .ok .skip w')
    (h : WL P ops Q rest (a.put none undef) w') : WL P ops Q (o :: rest) a w :=
  ⟨wpList_step fun K hK => by
    rw [if_pos hw]
    unfold Oper.wp
    rw [he, Oper.upon_skip, hd]
    exact hK _ _ h.h⟩
theorem list_make {rest : List Oper} {o : Oper} {a : Act} {w w' : World} (d : Tmp) (v : Value) (hd : o.dst = some d) (hw : Region.wanted o (yielded ops a.tmps) = true) (he : (execOp a.eval o).run P w = .ok (.value v) w')
    (h : WL P ops Q rest (a.put (some d) v) w') : WL P ops Q (o :: rest) a w :=
  ⟨wpList_step fun K hK => by
    rw [if_pos hw]
    unfold Oper.wp
    rw [he, Oper.upon_value, hd]
    exact hK _ _ h.h⟩
end
theorem add_block (a : Addr) (n : Nat) : (a.add n).block = a.block := by unfold Addr.add; split <;> rfl
theorem add_twice (a : Addr) (i j : Nat) : (a.add i).add j = a.add (i + j) := by
  unfold Addr.add
  by_cases hi : i = 0 <;> by_cases hj : j = 0 <;> simp [hi, hj, Nat.add_assoc]
def BytesIn (w : World) (B : Nat) (A : Option Addr) (xs : List Int) : Prop :=
  ∀ j x, xs[j]? = some x → ∃ ad, A = some ad ∧ ad.block < B ∧ w.cell? (ad.add j) = some (.int .u8 x)
theorem BytesIn.nil (w : World) (B : Nat) (A : Option Addr) : BytesIn w B A [] := fun j x h => by simp at h
theorem BytesIn.keep {w w' : World} {B : Nat} {A : Option Addr} {xs : List Int} (h : BytesIn w B A xs) (k : ∀ b, b < B → w'.heap[b]? = w.heap[b]?) : BytesIn w' B A xs := fun j x hx => by
  obtain ⟨ad, e, hb, hc⟩ := h j x hx
  exact ⟨ad, e, hb, (World.cell?_of_block (by rw [add_block]; exact k _ hb)).trans hc⟩
theorem BytesIn.more {w : World} {B B' : Nat} {A : Option Addr} {xs : List Int} (h : BytesIn w B A xs) (k : B ≤ B') : BytesIn w B' A xs := fun j x hx => by
  obtain ⟨ad, e, hb, hc⟩ := h j x hx
  exact ⟨ad, e, by omega, hc⟩
theorem BytesIn.below {w w' : World} {B : Nat} {A : Option Addr} {xs : List Int} (h : BytesIn w B A xs) (k : Below B w w') : BytesIn w' B A xs := h.keep fun b hb => k.block b hb
theorem BytesIn.drop {w : World} {B : Nat} {A : Option Addr} {xs : List Int} (h : BytesIn w B A xs) {k cap : Nat} (hk : k ≤ xs.length) (hc : xs.length ≤ cap) :
    BytesIn w B (if cap = k then A else A.map (·.add k)) (xs.drop k) := fun j x hx => by
  rw [List.getElem?_drop] at hx
  obtain ⟨ad, rfl, hb, hcell⟩ := h _ x hx
  have hl : k + j < xs.length := (List.getElem?_eq_some_iff.1 hx).1
  rw [if_neg (by omega)]
  exact ⟨ad.add k, rfl, by rw [add_block]; exact hb, by rw [add_twice]; exact hcell⟩
theorem BytesIn.take {w : World} {B : Nat} {A : Option Addr} {xs : List Int} (h : BytesIn w B A xs) (k : Nat) : BytesIn w B A (xs.take k) := fun j x hx => by
  rw [List.getElem?_take] at hx
  split at hx
  · exact h j x hx
  · cases hx
theorem BytesIn.at_ {w : World} {B : Nat} {A : Option Addr} {xs : List Int} (h : BytesIn w B A xs) {k : Nat} (hk : k < xs.length) : ∃ ad, A = some ad ∧ ad.block < B ∧ w.cell? (ad.add k) = some (.int .u8 (xs.getD k 0)) := by
  obtain ⟨ad, e, hb, hc⟩ := h k _ (List.getElem?_eq_getElem hk)
  refine ⟨ad, e, hb, ?_⟩
  rw [hc, List.getD_eq_getElem?_getD, List.getElem?_eq_getElem hk]
  rfl
structure Besides (A S : Nat) (w w' : World) : Prop where
  os : w'.os = w.os
  tape : w'.tape = w.tape
  output : w'.output = w.output
  size : w.heap.size ≤ w'.heap.size
  block : ∀ b, b < w.heap.size → b ≠ A → b ≠ S → w'.heap[b]? = w.heap[b]?
theorem Besides.refl (A S : Nat) (w : World) : Besides A S w w := ⟨rfl, rfl, rfl, Nat.le_refl _, fun _ _ _ _ => rfl⟩
theorem Besides.trans {A S : Nat} {a b c : World} (h : Besides A S a b) (k : Besides A S b c) : Besides A S a c :=
  ⟨k.os.trans h.os, k.tape.trans h.tape, k.output.trans h.output, Nat.le_trans h.size k.size, fun i hi n1 n2 => (k.block i (Nat.lt_of_lt_of_le hi h.size) n1 n2).trans (h.block i hi n1 n2)⟩
theorem Besides.of_below {A S : Nat} {w w' : World} (h : Below w.heap.size w w') : Besides A S w w' := ⟨h.os, h.tape, h.output, h.size, fun b hb _ _ => h.block b hb⟩
theorem Besides.alloc {A S : Nat} {a w : World} (h : Besides A S a w) (o : Obj) : Besides A S a (w.alloc o) :=
  h.trans (.of_below (Below.alloc (Below.refl _ _) (Nat.le_refl _) o))
theorem Besides.setCell {A S : Nat} {a w : World} (h : Besides A S a w) {p : Addr} (hp : p.block = A ∨ p.block = S ∨ a.heap.size ≤ p.block) (u : Value) : Besides A S a (w.setCell p u) :=
  ⟨h.os, h.tape, h.output, by simpa [World.setCell] using h.size, fun b hb n1 n2 => (Below.heap_setCell w p u b (by rcases hp with e | e | e <;> omega)).trans (h.block b hb n1 n2)⟩
theorem Besides.below {A S B : Nat} {w w' : World} (h : Besides A S w w') (hA : B ≤ A) (hS : B ≤ S) (hB : B ≤ w.heap.size) : Below B w w' :=
  ⟨h.os, h.tape, h.output, h.size, fun b hb => h.block b (by omega) (by omega) (by omega)⟩
def Row (w : World) (g : Nat) (t : TypeId) (cs : Array Value) : Prop := w.heap[g]? = some (.cells cs t (0, 0))
theorem Row.lt {w : World} {g : Nat} {t : TypeId} {cs : Array Value} (h : Row w g t cs) : g < w.heap.size := (Array.getElem?_eq_some_iff.1 h).1
theorem Row.cell {w : World} {g : Nat} {t : TypeId} {cs : Array Value} (h : Row w g t cs) (i : Nat) : w.cell? ⟨g, i, none⟩ = cs[i]? := by simp [World.cell?, show w.heap[g]? = _ from h]
theorem Row.frozen {w : World} {g : Nat} {t : TypeId} {cs : Array Value} (h : Row w g t cs) (i : Nat) : w.frozen? ⟨g, i, none⟩ = false := by simp [World.frozen?, show w.heap[g]? = _ from h]
theorem Row.new (w : World) (t : TypeId) (cs : Array Value) : Row (w.alloc (.cells cs t)) w.heap.size t cs := World.alloc_heap_new w _
theorem Row.alloc {w : World} {g : Nat} {t : TypeId} {cs : Array Value} (h : Row w g t cs) (o : Obj) : Row (w.alloc o) g t cs := (Below.heap_alloc w o g h.lt).trans h
theorem Row.set {w : World} {g : Nat} {t : TypeId} {cs : Array Value} (h : Row w g t cs) (i : Nat) (u : Value) : Row (w.setCell ⟨g, i, none⟩ u) g t (cs.setIfInBounds i u) := by
  unfold Row at h ⊢
  simp [World.setCell, Array.getElem?_modify, h]
theorem Row.far {w : World} {g : Nat} {t : TypeId} {cs : Array Value} (h : Row w g t cs) {p : Addr} (hp : g ≠ p.block) (u : Value) : Row (w.setCell p u) g t cs := (Below.heap_setCell w p u g hp).trans h
theorem Row.besides {A S : Nat} {w w' : World} {g : Nat} {t : TypeId} {cs : Array Value} (h : Row w g t cs) (k : Besides A S w w') (hA : g ≠ A) (hS : g ≠ S) : Row w' g t cs := (k.block g h.lt hA hS).trans h
theorem Row.below {B : Nat} {w w' : World} {g : Nat} {t : TypeId} {cs : Array Value} (h : Row w g t cs) (k : Below B w w') (hB : g < B) : Row w' g t cs := (k.block g hB).trans h
def ovr (cs : Array Value) : Nat → List Value → Array Value
  | _, [] => cs
  | o, v :: r => ovr (cs.setIfInBounds o v) (o + 1) r
theorem ovr_get : ∀ (vs : List Value) (o : Nat) (cs : Array Value) (i : Nat), (ovr cs o vs)[i]? = if o ≤ i ∧ i < o + vs.length ∧ i < cs.size then vs[i - o]? else cs[i]?
  | [], o, cs, i => by
    rw [if_neg (by rintro ⟨h1, h2, h3⟩; simp at h2; omega)]
    rfl
  | v :: r, o, cs, i => by
    rw [ovr, ovr_get r (o + 1) (cs.setIfInBounds o v) i, List.length_cons, Array.size_setIfInBounds, Array.getElem?_setIfInBounds]
    by_cases h1 : o = i
    · subst h1
      rw [if_neg (by omega), if_pos rfl]
      by_cases h3 : o < cs.size
      · rw [if_pos h3, if_pos (by omega), Nat.sub_self]
        rfl
      · rw [if_neg h3, if_neg (by omega), Array.getElem?_eq_none (by omega)]
    · rw [if_neg h1]
      by_cases h2 : o + 1 ≤ i ∧ i < o + 1 + r.length ∧ i < cs.size
      · rw [if_pos h2, if_pos (by omega), show i - o = (i - (o + 1)) + 1 by omega, List.getElem?_cons_succ]
      · rw [if_neg h2, if_neg (by omega)]
theorem ovr_all (cs vs : Array Value) (h : cs.size = vs.size) : ovr cs 0 vs.toList = vs := by
  apply Array.ext_getElem?
  intro i
  rw [ovr_get, Nat.zero_add, Array.length_toList, Nat.sub_zero]
  by_cases hi : i < vs.size
  · rw [if_pos ⟨Nat.zero_le _, hi, by omega⟩]
    simp
  · rw [if_neg (by omega), Array.getElem?_eq_none (by omega), Array.getElem?_eq_none (by omega)]
theorem setCells_top (w : World) (t : TypeId) : ∀ (vs : List Value) (o : Nat) (cs : Array Value), (w.alloc (.cells cs t)).setCells w.heap.size o vs = w.alloc (.cells (ovr cs o vs) t)
  | [], _, _ => rfl
  | v :: r, o, cs => by
    rw [World.setCells, World.setCell_alloc_new, setCells_top w t r (o + 1)]
    rfl
theorem setCells_new (w : World) (t : TypeId) (cs vs : Array Value) (h : cs.size = vs.size) : (w.alloc (.cells cs t)).setCells w.heap.size 0 vs.toList = w.alloc (.cells vs t) := by
  rw [setCells_top, ovr_all cs vs h]
theorem Row.range {w : World} {b : Nat} {cs : Array Value} {t : TypeId} (h : Row w b t cs) : w.rangeAt b 0 cs.toList := fun j v hv => by
  rw [Nat.zero_add, h.cell j]
  simpa using hv
theorem Row.there {w : World} {b : Nat} {cs : Array Value} {t : TypeId} (h : Row w b t cs) : w.there b 0 cs.size := fun j hj => by
  rw [Nat.zero_add, h.cell j]
  exact ⟨by simp [hj], h.frozen j⟩
section
variable {P : Program}
theorem loadVar_row {t u : TypeId} {w : World} {g : Nat} {cs : Array Value} {d : TypeDesc} (h : Row w g u cs) (hu : P.underlying t = some d) (hd : d.isRow = true) (hi : (P.info? t).map (·.size) = some cs.size) :
    (loadVar t ⟨g, 0, none⟩).run P w = .ok (.agg cs) w :=
  run_loadVar_mid w g 0 t cs.toList d h.range hu hd (by simpa using hi)
theorem wpList_store_top {ops : Array Oper} {rest : List Oper} {op : Oper} {a : Act} {Q : Exit → Act → World → Prop} (hgd : op.guard = none) (ty : TypeId) (x y : Operand) (ho : op.op = .store ty x y)
    (w : World) (g : Nat) (u : TypeId) (cs vs : Array Value) (hx : a.eval x = .pointer (some ⟨g, 0, none⟩)) (hy : a.eval y = .agg vs) (hg : g = w.heap.size) (h : cs.size = vs.size) (hi : (P.info? ty).map (·.size) = some vs.size) (h1 : vs.toList.all (·.oneCell') = true)
    (hK : wpList P ops Q rest (a.put op.dst undef) (w.alloc (.cells vs u))) : wpList P ops Q (op :: rest) a (w.alloc (.cells cs u)) := by
  subst hg
  refine wpList_store_mid hgd ty x y ho w.heap.size 0 vs hx hy (by rw [← h]; exact (Row.new w u cs).there) hi (by rw [← Array.all_toList]; exact h1) ?_
  rw [setCells_new _ _ _ _ h]
  exact hK
theorem wpList_load_row {ops : Array Oper} {rest : List Oper} {op : Oper} {a : Act} {w : World} {Q : Exit → Act → World → Prop} (hgd : op.guard = none) (ty : TypeId) (x : Operand) (ho : op.op = .load ty x)
    (g : Nat) (u : TypeId) (cs : Array Value) (hx : a.eval x = .pointer (some ⟨g, 0, none⟩)) (h : Row w g u cs) (d : TypeDesc) (hu : P.underlying ty = some d) (hd : d.isRow = true) (hi : (P.info? ty).map (·.size) = some cs.size)
    (hK : wpList P ops Q rest (a.put op.dst (.agg cs)) w) : wpList P ops Q (op :: rest) a w :=
  wpList_load_mid hgd ty x ho g 0 hx cs.toList d h.range hu hd (by simpa using hi) hK
theorem results_row {fn : Func} {t : Tmp} {ty u : TypeId} (h : fn.results = #[.cell t ty]) {tmps : Array Value} {w : World} {g : Nat} {cs : Array Value} (ht : tmps.getD t undef = .pointer (some ⟨g, 0, none⟩)) (hr : Row w g u cs)
    (d : TypeDesc) (hu : P.underlying ty = some d) (hd : d.isRow = true) (hi : (P.info? ty).map (·.size) = some cs.size) : (results fn tmps).run P w = .ok (.agg cs) w := by
  have ht' : tmps[t]?.getD undef = .pointer (some ⟨g, 0, none⟩) := by simpa using ht
  simp [results, h, ht', asAddr, loadVar_row hr hu hd hi]
end
theorem Below.setCellsAll {n : Nat} {w w' : World} (h : Below n w w') {b : Nat} (hb : n ≤ b) : ∀ (vs : List Value) (o : Nat), Below n w (w'.setCells b o vs) := by
  intro vs
  induction vs generalizing w' with
  | nil => intro o; exact h
  | cons v r ih => intro o; exact ih (Go.RowKit.Below.setCell h hb _) (o + 1)
theorem Row.setOver {w : World} {g : Nat} {t : TypeId} : ∀ (vs : List Value) (o : Nat) {w : World} {cs : Array Value}, Row w g t cs → Row (w.setCells g o vs) g t (ovr cs o vs)
  | [], _, _, _, h => h
  | v :: r, o, _, _, h => Row.setOver (w := w) r (o + 1) (h.set o v)
theorem Row.setAll {w : World} {g : Nat} {t : TypeId} {cs vs : Array Value} (h : Row w g t cs) (hs : cs.size = vs.size) : Row (w.setCells g 0 vs.toList) g t vs := by
  have := Row.setOver (w := w) vs.toList 0 h
  rwa [ovr_all cs vs hs] at this
theorem Row.setFar {g b : Nat} {t : TypeId} {cs : Array Value} (hb : g ≠ b) : ∀ (vs : List Value) (o : Nat) {w : World}, Row w g t cs → Row (w.setCells b o vs) g t cs
  | [], _, _, h => h
  | v :: r, o, _, h => Row.setFar hb r (o + 1) (h.far (p := ⟨b, o, none⟩) hb v)
section
variable {P : Program}
theorem wpList_store_row {ops : Array Oper} {rest : List Oper} {op : Oper} {a : Act} {w : World} {Q : Exit → Act → World → Prop} (hgd : op.guard = none) (ty : TypeId) (x y : Operand) (ho : op.op = .store ty x y)
    (g : Nat) (u : TypeId) (cs vs : Array Value) (hx : a.eval x = .pointer (some ⟨g, 0, none⟩)) (hy : a.eval y = .agg vs) (hr : Row w g u cs) (h : cs.size = vs.size) (hi : (P.info? ty).map (·.size) = some vs.size) (h1 : vs.toList.all (·.oneCell') = true)
    (hK : wpList P ops Q rest (a.put op.dst undef) (w.setCells g 0 vs.toList)) : wpList P ops Q (op :: rest) a w :=
  wpList_store_mid hgd ty x y ho g 0 vs hx hy (by rw [← h]; exact hr.there) hi (by rw [← Array.all_toList]; exact h1) hK
end
inductive Pl where
  | val (v : Value)
  | call (v : Value)
  | box (t : TypeId) (z : Array Value) (st : Option (Nat × Array Value)) (sl : Option Nat)
  | put (j : Nat)
def Pl.value (x : Pl) (p : Nat → Nat) (k : Nat) : Value := match x with
  | .val v => v
  | .call v => v
  | .box _ _ _ none => .pointer (some ⟨p k, 0, none⟩)
  | .box _ _ _ (some n) => .slice (some ⟨p k, 0, none⟩) n n
  | .put _ => undef
def nowC (listed : Array Bool) (z : Array Value) : Option (Nat × Array Value) → Array Value
  | none => z
  | some (s, vs) => if listed.getD s false = true then vs else z
def endC (z : Array Value) : Option (Nat × Array Value) → Array Value
  | none => z
  | some (_, vs) => vs
abbrev Plan := List (Option Tmp × Pl)
def layL (p : Nat → Nat) : Plan → Nat → Array Value → Array Value
  | [], _, t => t
  | (some d, x) :: r, k, t => layL p r (k + 1) (t.setIfInBounds d (x.value p k))
  | (none, _) :: r, k, t => layL p r (k + 1) t
def distinctB : List (Option Tmp) → Bool
  | [] => true
  | none :: l => distinctB l
  | some d :: l => !l.contains (some d) && distinctB l
theorem distinct_ne {d : Tmp} : ∀ {D : List (Option Tmp)} {k : Nat}, D.contains (some d) = false → D[k]? = some (some d) → False
  | [], _, _, h => by simp at h
  | e :: D, 0, h, hk => by
    simp at hk
    subst hk
    simp at h
  | e :: D, k + 1, h, hk => by
    simp only [List.contains_cons, Bool.or_eq_false_iff] at h
    exact distinct_ne (D := D) (k := k) h.2 (by simpa using hk)
theorem distinct_eq {d : Tmp} : ∀ {D : List (Option Tmp)} {k l : Nat}, distinctB D = true → D[k]? = some (some d) → D[l]? = some (some d) → k = l
  | [], _, _, _, h, _ => by simp at h
  | e :: D, 0, 0, _, _, _ => rfl
  | e :: D, 0, l + 1, h, hk, hl => by
    simp at hk
    subst hk
    simp only [distinctB, Bool.and_eq_true, Bool.not_eq_true'] at h
    exact (distinct_ne h.1 (by simpa using hl)).elim
  | e :: D, k + 1, 0, h, hk, hl => by
    simp at hl
    subst hl
    simp only [distinctB, Bool.and_eq_true, Bool.not_eq_true'] at h
    exact (distinct_ne h.1 (by simpa using hk)).elim
  | e :: D, k + 1, l + 1, h, hk, hl => by
    have h' : distinctB D = true := by
      cases e with
      | none => exact h
      | some e => simp only [distinctB, Bool.and_eq_true] at h; exact h.2
    exact congrArg (· + 1) (distinct_eq (D := D) (k := k) (l := l) h' (by simpa using hk) (by simpa using hl))
theorem layL_rest (p : Nat → Nat) (s : Nat) : ∀ (L : Plan) (k : Nat) (t : Array Value), (∀ (j : Nat) (x : Pl), L[j]? ≠ some (some s, x)) → (layL p L k t)[s]? = t[s]?
  | [], _, _, _ => rfl
  | (some d, x) :: r, k, t, h => by
    rw [layL, layL_rest p s r _ _ fun j y => by simpa using h (j + 1) y]
    have hd : d ≠ s := fun e => h 0 x (by simp [e])
    exact Array.getElem?_setIfInBounds_ne hd
  | (none, _) :: r, k, t, h => by rw [layL, layL_rest p s r _ _ fun j y => by simpa using h (j + 1) y]
theorem layL_slot (p : Nat → Nat) (s : Tmp) (x : Pl) : ∀ (L : Plan) (k : Nat) (t : Array Value) (j : Nat), distinctB (L.map (·.1)) = true → L[j]? = some (some s, x) → s < t.size → (layL p L k t)[s]? = some (x.value p (k + j))
  | [], _, _, j, _, h, _ => by simp at h
  | (some d, y) :: r, k, t, 0, hD, h, hs => by
    simp at h
    obtain ⟨rfl, rfl⟩ := h
    simp only [List.map_cons, distinctB, Bool.and_eq_true, Bool.not_eq_true'] at hD
    rw [layL, layL_rest p d r _ _ fun j z e => distinct_ne (D := r.map (·.1)) (k := j) hD.1 (by rw [List.getElem?_map, e]; rfl)]
    simp [hs]
  | (some d, y) :: r, k, t, j + 1, hD, h, hs => by
    simp only [List.map_cons, distinctB, Bool.and_eq_true, Bool.not_eq_true'] at hD
    rw [layL, layL_slot p s x r (k + 1) _ j hD.2 (by simpa using h) (by simpa using hs), show k + 1 + j = k + (j + 1) by omega]
  | (none, y) :: r, k, t, 0, hD, h, hs => by simp at h
  | (none, y) :: r, k, t, j + 1, hD, h, hs => by
    rw [layL, layL_slot p s x r (k + 1) _ j hD (by simpa using h) hs, show k + 1 + j = k + (j + 1) by omega]
section
variable {P : Program} {ops : Array Oper} {Q : Exit → Act → World → Prop}
structure BoxI (L : Plan) (a0 : Act) (w0 : World) (p : Nat → Nat) (listed : Array Bool) (a : Act) (w : World) : Prop where
  size : listed.size = L.length
  df : a.defers = a0.defers
  len : a.tmps.size = a0.tmps.size
  slot : ∀ (k : Nat) (d : Tmp) (x : Pl), L[k]? = some (some d, x) → listed.getD k false = true → a.tmps[d]? = some (x.value p k)
  rest : ∀ (s : Nat), (∀ (k : Nat) (x : Pl), L[k]? ≠ some (some s, x)) → a.tmps[s]? = a0.tmps[s]?
  below : Below w0.heap.size w0 w
  boxed : ∀ (k : Nat) (d : Option Tmp) (t : TypeId) (z : Array Value) (s : Option (Nat × Array Value)) (vs : Option Nat), L[k]? = some (d, .box t z s vs) → listed.getD k false = true → w0.heap.size ≤ p k ∧ Row w (p k) t (nowC listed z s)
  apart : ∀ (k l : Nat) (d : Option Tmp) (t : TypeId) (z : Array Value) (s : Option (Nat × Array Value)) (vs : Option Nat) (d' : Option Tmp) (t' : TypeId) (z' : Array Value) (s' : Option (Nat × Array Value)) (vs' : Option Nat), L[k]? = some (d, .box t z s vs) → L[l]? = some (d', .box t' z' s' vs') → listed.getD k false = true → listed.getD l false = true → k ≠ l → p k ≠ p l
def needB (ops : Array Oper) (k j : Nat) : Bool := match ops[k]? with
  | some o => o.after.toList.any fun e => Region.binds .any e && e.on == j
  | none => false
def boxB (L : Plan) : Bool := (List.range L.length).all fun k => match L[k]? with
  | some (d, .box _ _ (some (s, _)) _) => d.isSome && (match L[s]? with
    | some (none, .put j) => j == k
    | _ => false)
  | some (d, .put j) => d.isNone && (match L[j]? with
    | some (_, .box _ _ (some (s, _)) _) => s == k && needB ops k j
    | _ => false)
  | _ => true
def usesB (ops : Array Oper) (L : Plan) : Bool := (List.range ops.size).all fun k => match ops[k]? with
  | some o => o.op.operands.toList.all fun
    | .tmp s => !(L.map (·.1)).contains (some s) || (List.range L.length).any fun j => (L[j]?).map (·.1) == some (some s) && needB ops k j
    | _ => true
  | none => true
def planB (ops : Array Oper) (L : Plan) (N : Nat) : Bool :=
  (ops.toList.map (·.dst) == L.map (·.1)) && (ops.toList.all (fun o => o.guard.isNone) && (distinctB (L.map (·.1)) && (L.all (fun x => match x.1 with | some d => decide (d < N) | none => true) &&
    ((List.range ops.size).all (fun k => match ops[k]? with | some o => o.after.all (fun e => !Region.binds .any e || decide (e.on < k)) | none => true) && (boxB (ops := ops) L && (Region.noSelect ops && usesB ops L))))))
def litA (L : Plan) (a0 : Act) (p : Nat → Nat) : Act := { a0 with tmps := layL p L 0 a0.tmps }
def Ob (P : Program) (ops : Array Oper) (L : Plan) (a0 : Act) (w0 : World) (k : Nat) (o : Oper) : Pl → Prop
  | .val v => ∀ p listed a w, BoxI L a0 w0 p listed a w → (∀ j, needB ops k j = true → listed.getD j false = true) → (execOp (litA L a0 p).eval o).run P w = .ok (.value v) w
  | .call v => ∀ p listed a w, BoxI L a0 w0 p listed a w → (∀ j, needB ops k j = true → listed.getD j false = true) → ∃ f args, (execOp (litA L a0 p).eval o).run P w = .ok (.enter f args) w ∧ Calls P f args w fun e w' => e = .returned v ∧ Below w.heap.size w w'
  | .box t z s n => (∀ k vs, s = some (k, vs) → z.size = vs.size) ∧ ∀ p listed a w, BoxI L a0 w0 p listed a w → (∀ j, needB ops k j = true → listed.getD j false = true) → (execOp (litA L a0 p).eval o).run P w = .ok (.value ((Pl.box t z s n).value (fun _ => w.heap.size) k)) (w.alloc (.cells z t))
  | .put j => ∀ p listed a w, BoxI L a0 w0 p listed a w → (∀ j, needB ops k j = true → listed.getD j false = true) → ∀ (d : Option Tmp) (t : TypeId) (z : Array Value) (s : Option (Nat × Array Value)) (vs : Option Nat), L[j]? = some (d, .box t z s vs) → Row w (p j) t z → (execOp (litA L a0 p).eval o).run P w = .ok .skip (w.setCells (p j) 0 (endC z s).toList)
theorem wanted0 {o : Oper} {f : Nat → Option Bool} (hg : o.guard = none) : Region.wanted o f = true := by simp only [Region.wanted, hg]
theorem getD_at {α : Type} {xs : Array α} {k : Nat} {d v : α} (h : xs[k]? = some v) : xs.getD k d = v := by
  rw [Array.getD_eq_getD_getElem?, h]; rfl
theorem BoxI.tmp {L : Plan} {a0 : Act} {w0 : World} {p : Nat → Nat} {listed : Array Bool} {a : Act} {w : World} (h : BoxI L a0 w0 p listed a w) {k : Nat} (hd : ∀ j, needB ops k j = true → listed.getD j false = true) (j : Nat) (hn : needB ops k j = true) {d : Tmp} {x : Pl} (hL : L[j]? = some (some d, x)) :
    a.eval (.tmp d) = x.value p j := getD_at (h.slot j d x hL (hd j hn))
theorem BoxI.old {L : Plan} {a0 : Act} {w0 : World} {p : Nat → Nat} {listed : Array Bool} {a : Act} {w : World} (h : BoxI L a0 w0 p listed a w) (s : Tmp) {v : Value} (hv : a0.tmps[s]? = some v) (hn : ((L.map (·.1)).contains (some s)) = false) : a.eval (.tmp s) = v :=
  getD_at ((h.rest s fun k x e => distinct_ne (D := L.map (·.1)) (k := k) hn (by rw [List.getElem?_map, e]; rfl)).trans hv)
theorem unlisted_drop {listed : Array Bool} {i : Nat} (hi : i < listed.size) (h : listed.getD i true = false) : ∀ n, ((List.range n).countP fun k => !(listed.setIfInBounds i true).getD k true) + (if i < n then 1 else 0) = (List.range n).countP fun k => !listed.getD k true := by
  intro n
  induction n with
  | zero => simp
  | succ n ih =>
    rw [List.range_succ, List.countP_append, List.countP_append]
    by_cases hin : i = n
    · subst hin
      have e1 : (listed.setIfInBounds i true).getD i true = true := getD_at (by simp [hi])
      simp only [List.countP_cons, List.countP_nil, e1, h]
      simp at ih ⊢
      omega
    · have e1 : (listed.setIfInBounds i true).getD n true = listed.getD n true := getD_set_ne true hin
      simp only [List.countP_cons, List.countP_nil, e1]
      have : (i < n + 1) ↔ (i < n) := by omega
      simp only [this]
      omega
theorem getD_set_eq {listed : Array Bool} {i : Nat} (hi : i < listed.size) : (listed.setIfInBounds i true).getD i false = true := getD_at (by simp [hi])
theorem getD_tf {listed : Array Bool} {i : Nat} (h : listed.getD i true = false) : listed.getD i false = false := by
  rw [Array.getD_eq_getD_getElem?] at h ⊢
  cases hx : listed[i]? with
  | none => rfl
  | some b => rw [hx] at h; exact h
theorem getD_ft {listed : Array Bool} {i : Nat} (hi : i < listed.size) (h : listed.getD i true = true) : listed.getD i false = true := by
  rw [Array.getD_eq_getD_getElem?] at h ⊢
  rw [Array.getElem?_eq_getElem hi] at h ⊢
  exact h
theorem BoxI.step {L : Plan} {a0 : Act} {w0 : World} {p q : Nat → Nat} {listed : Array Bool} {a : Act} {w w' : World} (h : BoxI L a0 w0 p listed a w) {i : Nat} {dst : Option Tmp} {x : Pl} (hL : L[i]? = some (dst, x)) (hD : distinctB (L.map (·.1)) = true) (hfit : ∀ d, dst = some d → d < a0.tmps.size)
    (hu : listed.getD i true = false) (hq : ∀ k, k ≠ i → q k = p k) (hpos : ∀ k, x.value p k = x.value p k) (hb : Below w0.heap.size w0 w')
    (hbox : ∀ (k : Nat) (d : Option Tmp) (t : TypeId) (z : Array Value) (s : Option (Nat × Array Value)) (vs : Option Nat), L[k]? = some (d, .box t z s vs) → (listed.setIfInBounds i true).getD k false = true → w0.heap.size ≤ q k ∧ Row w' (q k) t (nowC (listed.setIfInBounds i true) z s))
    (hap : ∀ (k l : Nat) (d : Option Tmp) (t : TypeId) (z : Array Value) (s : Option (Nat × Array Value)) (vs : Option Nat) (d' : Option Tmp) (t' : TypeId) (z' : Array Value) (s' : Option (Nat × Array Value)) (vs' : Option Nat), L[k]? = some (d, .box t z s vs) → L[l]? = some (d', .box t' z' s' vs') → (listed.setIfInBounds i true).getD k false = true → (listed.setIfInBounds i true).getD l false = true → k ≠ l → q k ≠ q l) :
    BoxI L a0 w0 q (listed.setIfInBounds i true) (a.put dst (x.value q i)) w' := by
  have hv : ∀ k y, k ≠ i → Pl.value y q k = Pl.value y p k := fun k y hk => by
    cases y <;> simp only [Pl.value, hq k hk]
  have hun : ∀ k, k ≠ i → (listed.setIfInBounds i true).getD k false = listed.getD k false := fun k hk => getD_set_ne false (Ne.symm hk)
  refine ⟨by rw [Array.size_setIfInBounds]; exact h.size, ?_, ?_, ?_, ?_, hb, hbox, hap⟩
  · cases dst <;> exact h.df
  · cases dst with
    | none => exact h.len
    | some d => simp only [Act.put, Array.size_setIfInBounds]; exact h.len
  · intro k d y hk hl
    by_cases hki : k = i
    · subst hki
      rw [hL] at hk
      injection hk with hk; injection hk with e1 e2
      subst e1; subst e2
      simp only [Act.put]
      rw [Array.getElem?_setIfInBounds, if_pos rfl, if_pos (by rw [h.len]; exact hfit d rfl)]
    · rw [hun k hki] at hl
      have h0 := h.slot k d y hk hl
      rw [hv k y hki]
      cases dst with
      | none => exact h0
      | some d' =>
        have hne : d' ≠ d := fun e => hki (distinct_eq (D := L.map (·.1)) (d := d) hD (by rw [List.getElem?_map, hk]; rfl) (by rw [List.getElem?_map, hL, e]; rfl))
        simp only [Act.put]
        rw [Array.getElem?_setIfInBounds_ne hne]
        exact h0
  · intro s hs
    have h0 := h.rest s hs
    cases dst with
    | none => exact h0
    | some d' =>
      have hne : d' ≠ s := fun e => hs i x (by rw [hL, e])
      simp only [Act.put]
      rw [Array.getElem?_setIfInBounds_ne hne]
      exact h0
structure PlanOk (ops : Array Oper) (L : Plan) (N : Nat) : Prop where
  len : L.length = ops.size
  get : ∀ (k : Nat) (o : Oper), ops[k]? = some o → ∃ x, L[k]? = some (o.dst, x)
  fit : ∀ (k : Nat) (d : Tmp) (x : Pl), L[k]? = some (some d, x) → d < N
  guard : ∀ (k : Nat) (o : Oper), ops[k]? = some o → o.guard = none
  dist : distinctB (L.map (·.1)) = true
  store : ∀ (k : Nat) (d : Option Tmp) (t : TypeId) (z : Array Value) (s : Nat) (vs : Array Value) (n : Option Nat), L[k]? = some (d, .box t z (some (s, vs)) n) → L[s]? = some (none, .put k)
  put : ∀ (k : Nat) (d : Option Tmp) (j : Nat), L[k]? = some (d, .put j) → d = none ∧ needB ops k j = true ∧ ∃ d' t z vs n, L[j]? = some (d', .box t z (some (k, vs)) n)
  ord : ∀ (k : Nat) (hk : k < ops.size), ∀ e ∈ ops[k].after, Region.binds .any e = true → e.on < k
  sel : ∀ (k : Nat) (o : Oper) cs b, ops[k]? = some o → o.op ≠ .select cs b
  uses : ∀ (k : Nat) (o : Oper) (s : Tmp), ops[k]? = some o → Operand.tmp s ∈ o.op.operands → (L.map (·.1)).contains (some s) = false ∨ ∃ j x, L[j]? = some (some s, x) ∧ needB ops k j = true
theorem planOk {L : Plan} {N : Nat} (hB : planB ops L N = true) : PlanOk ops L N := by
  simp only [planB, Bool.and_eq_true] at hB
  obtain ⟨hdst, hgd, hD, hfit0, hord, hbox, hsel, huses⟩ := hB
  have hdst' : ops.toList.map (·.dst) = L.map (·.1) := by simpa using hdst
  have hlen : L.length = ops.size := by
    have := congrArg List.length hdst'
    simpa using this.symm
  have hlt : ∀ (k : Nat) (x : Option Tmp × Pl), L[k]? = some x → k < L.length := fun k x h => (List.getElem?_eq_some_iff.1 h).1
  refine ⟨hlen, fun k o hk => ?_, fun k d x hk => ?_, fun k o hk => ?_, hD, fun k d t z s vs n hk => ?_, fun k d j hk => ?_, fun k hk e he hb => ?_, Region.noSelect_spec hsel, fun k o s ho hs => ?_⟩
  · have e : (ops.toList.map (·.dst))[k]? = some o.dst := by rw [List.getElem?_map]; simp [hk]
    rw [hdst', List.getElem?_map] at e
    cases hx : L[k]? with
    | none => rw [hx] at e; cases e
    | some y =>
      rw [hx] at e
      injection e with e
      exact ⟨y.2, by rw [← e]⟩
  · have := List.all_eq_true.1 hfit0 _ (List.mem_of_getElem? hk)
    simpa using this
  · have := List.all_eq_true.1 hgd o (by simpa using Array.mem_of_getElem? hk)
    simpa using this
  · have h := List.all_eq_true.1 hbox k (List.mem_range.2 (hlt k _ hk))
    rw [hk] at h
    simp only [Bool.and_eq_true] at h
    rcases hs : L[s]? with _ | ⟨_ | d', y⟩
    · rw [hs] at h; cases h.2
    · rw [hs] at h
      cases y with
      | put j => have := h.2; simp at this; rw [this]
      | val v => cases h.2
      | call v => cases h.2
      | box _ _ _ _ => cases h.2
    · rw [hs] at h; cases y <;> cases h.2
  · have h := List.all_eq_true.1 hbox k (List.mem_range.2 (hlt k _ hk))
    rw [hk] at h
    simp only [Bool.and_eq_true] at h
    refine ⟨by simpa using h.1, ?_⟩
    rcases hs : L[j]? with _ | ⟨d', y⟩
    · rw [hs] at h; cases h.2
    · rw [hs] at h
      cases y with
      | box t z s n =>
        cases s with
        | none => cases h.2
        | some sv =>
          have := h.2
          simp only [Bool.and_eq_true, beq_iff_eq] at this
          obtain ⟨h1, h2⟩ := this
          subst h1
          exact ⟨h2, _, _, _, _, _, rfl⟩
      | val v => cases h.2
      | call v => cases h.2
      | put _ => cases h.2
  · have h1 := List.all_eq_true.1 hord k (List.mem_range.2 hk)
    rw [Array.getElem?_eq_getElem hk] at h1
    have h2 := Array.all_eq_true_iff_forall_mem.1 h1 e he
    simpa only [hb, Bool.not_true, Bool.false_or, decide_eq_true_eq] using h2
  · have h1 := List.all_eq_true.1 huses k (List.mem_range.2 (Array.getElem?_eq_some_iff.1 ho).1)
    rw [ho] at h1
    have h2 := List.all_eq_true.1 h1 (.tmp s) (by simpa using hs)
    simp only [Bool.or_eq_true, Bool.not_eq_true'] at h2
    rcases h2 with h2 | h2
    · exact .inl h2
    · obtain ⟨j, -, h3⟩ := List.any_eq_true.1 h2
      simp only [Bool.and_eq_true, beq_iff_eq] at h3
      obtain ⟨h3, h4⟩ := h3
      cases hj : L[j]? with
      | none => rw [hj] at h3; cases h3
      | some y =>
        rw [hj] at h3
        simp only [Option.map_some, Option.some.injEq] at h3
        exact .inr ⟨j, y.2, by rw [hj, ← h3], h4⟩
theorem same_eval {L : Plan} {a0 : Act} {w0 : World} (H : PlanOk ops L a0.tmps.size) {p : Nat → Nat} {listed : Array Bool} {a : Act} {w : World} (I : BoxI L a0 w0 p listed a w) {k : Nat} {o : Oper} (ho : ops[k]? = some o) (hneed : ∀ j, needB ops k j = true → listed.getD j false = true) :
    execOp a.eval o = execOp (litA L a0 p).eval o := by
  refine execOp_congr o (fun cs b => H.sel k o cs b ho) fun x hx => ?_
  cases x with
  | tmp s =>
    show a.tmps.getD s undef = (layL p L 0 a0.tmps).getD s undef
    rw [Array.getD_eq_getD_getElem?, Array.getD_eq_getD_getElem?]
    rcases H.uses k o s ho hx with h | ⟨j, x, hj, hn⟩
    · have hs : ∀ (k : Nat) (x : Pl), L[k]? ≠ some (some s, x) := fun k x e => distinct_ne (D := L.map (·.1)) (k := k) h (by rw [List.getElem?_map, e]; rfl)
      rw [I.rest s hs, layL_rest p s L 0 a0.tmps hs]
    · rw [I.slot j s x hj (hneed j hn), layL_slot p s x L 0 a0.tmps j H.dist hj (H.fit j s x hj), Nat.zero_add]
  | _ => rfl
theorem now_same {listed : Array Bool} {i : Nat} {z : Array Value} {s : Option (Nat × Array Value)} (h : ∀ s' vs, s = some (s', vs) → s' ≠ i) : nowC (listed.setIfInBounds i true) z s = nowC listed z s := by
  rcases s with _ | ⟨s, vs⟩
  · rfl
  · simp only [nowC, getD_set_ne false (Ne.symm (h s vs rfl))]
theorem boxed_step {L : Plan} {a0 : Act} {w0 : World} (H : PlanOk ops L a0.tmps.size) (hob : ∀ (k : Nat) (o : Oper) (x : Pl), ops[k]? = some o → L[k]? = some (o.dst, x) → Ob P ops L a0 w0 k o x)
    {p : Nat → Nat} {listed : Array Bool} {a : Act} {w : World} (I : BoxI L a0 w0 p listed a w) (hO0 : ∀ k j, needB ops k j = true → listed.getD k false = true → listed.getD j false = true)
    {i : Nat} (his : i < ops.size) (hu : listed.getD i true = false) (hneed : ∀ j, needB ops i j = true → listed.getD j false = true) {K : Act → World → Prop}
    (hK : ∀ p' a' w', BoxI L a0 w0 p' (listed.setIfInBounds i true) a' w' → K a' w') : wpOp P ops Q i K a w := by
  have H0 := H
  obtain ⟨hlen, hget, hfit, hguard, hD, hstore, hput, hord, -, -⟩ := H
  have hlt : ∀ (k : Nat) (x : Option Tmp × Pl), L[k]? = some x → k < L.length := fun k x h => (List.getElem?_eq_some_iff.1 h).1
  obtain ⟨o, ho⟩ : ∃ o, ops[i]? = some o := ⟨_, Array.getElem?_eq_getElem his⟩
  have hil : i < listed.size := by rw [I.size, hlen]; exact his
  obtain ⟨x, hx⟩ := hget i o ho
  have hO := hob i o x ho hx
  have hev := same_eval H0 I ho hneed
  have hgo := hguard i o ho
  have huf := getD_tf hu
  unfold wpOp
  simp only [ho, wanted0 hgo, if_true]
  refine .inl ?_
  unfold Oper.wp
  rw [hev]
  have old : ∀ k, k ≠ i → (listed.setIfInBounds i true).getD k false = listed.getD k false := fun k hk => getD_set_ne false (Ne.symm hk)
  -- no store is operation i, unless it is one
  have nost : (∀ j, x ≠ .put j) → ∀ (k : Nat) (d : Option Tmp) (t : TypeId) (z : Array Value) (s : Option (Nat × Array Value)) (n : Option Nat), L[k]? = some (d, .box t z s n) → nowC (listed.setIfInBounds i true) z s = nowC listed z s := fun hnx k d t z s n hk =>
    now_same fun s' vs e hs => by
      subst e; subst hs
      have := hstore k d t z s' vs n hk
      rw [hx] at this
      injection this with this
      exact hnx k (congrArg (·.2) this)
  have same : (∀ t z s n, x ≠ .box t z s n) → ∀ (k : Nat) (d : Option Tmp) (t : TypeId) (z : Array Value) (s : Option (Nat × Array Value)) (n : Option Nat), L[k]? = some (d, .box t z s n) → k ≠ i := fun hnx k d t z s n hk e => by
    subst e
    rw [hx] at hk
    injection hk with hk
    exact hnx t z s n (congrArg (·.2) hk)
  have aprt : (∀ t z s n, x ≠ .box t z s n) → ∀ (k l : Nat) (d : Option Tmp) (t : TypeId) (z : Array Value) (s : Option (Nat × Array Value)) (vs : Option Nat) (d' : Option Tmp) (t' : TypeId) (z' : Array Value) (s' : Option (Nat × Array Value)) (vs' : Option Nat), L[k]? = some (d, .box t z s vs) → L[l]? = some (d', .box t' z' s' vs') → (listed.setIfInBounds i true).getD k false = true → (listed.setIfInBounds i true).getD l false = true → k ≠ l → p k ≠ p l :=
    fun hnx k l d t z s vs d' t' z' s' vs' hk hl h1 h2 hne => by
      rw [old k (same hnx k d t z s vs hk)] at h1
      rw [old l (same hnx l d' t' z' s' vs' hl)] at h2
      exact I.apart k l d t z s vs d' t' z' s' vs' hk hl h1 h2 hne
  cases x with
  | val v =>
    rw [hO p listed a w I hneed, Oper.upon_value]
    refine hK p _ _ (I.step (q := p) hx hD (fun d e => hfit i d (.val v) (by rw [hx, e])) hu (fun _ _ => rfl) (fun _ => rfl) I.below ?_ (aprt (by intros; simp)))
    intro k d t z s vs hk hl
    rw [old k (same (by intros; simp) k d t z s vs hk)] at hl
    rw [nost (by intros; simp) k d t z s vs hk]
    exact I.boxed k d t z s vs hk hl
  | call v =>
    obtain ⟨f, args, he, hC⟩ := hO p listed a w I hneed
    rw [he, Oper.upon_enter]
    refine hC.mono ?_
    rintro e w' ⟨rfl, hb⟩
    refine hK p _ _ (I.step (q := p) hx hD (fun d e => hfit i d (.call v) (by rw [hx, e])) hu (fun _ _ => rfl) (fun _ => rfl) (I.below.trans (hb.mono I.below.size)) ?_ (aprt (by intros; simp)))
    intro k d t z s vs hk hl
    rw [old k (same (by intros; simp) k d t z s vs hk)] at hl
    rw [nost (by intros; simp) k d t z s vs hk]
    have h0 := I.boxed k d t z s vs hk hl
    exact ⟨h0.1, h0.2.below hb h0.2.lt⟩
  | box t0 z0 s0 n0 =>
    obtain ⟨hz, he⟩ := hO
    rw [he p listed a w I hneed, Oper.upon_value]
    have hqk : ∀ k, k ≠ i → (fun k => if k = i then w.heap.size else p k) k = p k := fun k hk => if_neg hk
    have hsz := I.below.size
    have st := I.step (q := fun k => if k = i then w.heap.size else p k) (w' := w.alloc (.cells z0 t0)) hx hD (fun d e => hfit i d (.box t0 z0 s0 n0) (by rw [hx, e])) hu hqk (fun _ => rfl) (I.below.alloc hsz _) ?_ ?_
    · have ev : (Pl.box t0 z0 s0 n0).value (fun k => if k = i then w.heap.size else p k) i = (Pl.box t0 z0 s0 n0).value (fun _ => w.heap.size) i := by
        cases n0 <;> simp only [Pl.value, if_pos]
      rw [ev] at st
      exact hK _ _ _ st
    · intro k d t z s vs hk hl
      rw [nost (by intros; simp) k d t z s vs hk]
      show w0.heap.size ≤ (if k = i then w.heap.size else p k) ∧ Row _ (if k = i then w.heap.size else p k) _ _
      by_cases hki : k = i
      · subst hki
        rw [hx] at hk
        injection hk with hk; injection hk with e1 e2; injection e2 with e3 e4 e5 e6
        subst e3; subst e4; subst e5; subst e6
        have e2 : nowC listed z0 s0 = z0 := by
          rcases s0 with _ | ⟨s0, vs0⟩
          · rfl
          · cases hc2 : listed.getD s0 false with
            | false => simp only [nowC, hc2]; rfl
            | true =>
              have hp := hput s0 none k (hstore k _ _ _ _ _ _ hx)
              exact absurd (huf.symm.trans (hO0 s0 k hp.2.1 hc2)) (by simp)
        rw [e2, if_pos rfl]
        exact ⟨hsz, Row.new w t0 z0⟩
      · rw [old k hki] at hl
        have h0 := I.boxed k d t z s vs hk hl
        rw [if_neg hki]
        exact ⟨h0.1, h0.2.alloc _⟩
    · intro k l d t z s vs d' t' z' s' vs' hk hl h1 h2 hne
      show (if k = i then w.heap.size else p k) ≠ (if l = i then w.heap.size else p l)
      by_cases hki : k = i
      · have hli : l ≠ i := fun e => hne (hki.trans e.symm)
        rw [if_pos hki, if_neg hli]
        rw [old l hli] at h2
        have := (I.boxed l d' t' z' s' vs' hl h2).2.lt
        omega
      · rw [if_neg hki]
        rw [old k hki] at h1
        have := (I.boxed k d t z s vs hk h1).2.lt
        by_cases hli : l = i
        · rw [if_pos hli]; omega
        · rw [if_neg hli]
          rw [old l hli] at h2
          exact I.apart k l d t z s vs d' t' z' s' vs' hk hl h1 h2 hne
  | put j =>
    obtain ⟨hnd, hn, d1, t1, z1, vs1, n1, hj⟩ := hput i _ j hx
    have hjl := hneed j hn
    have hrow := I.boxed j d1 t1 z1 (some (i, vs1)) n1 hj hjl
    simp only [nowC, huf, Bool.false_eq_true, if_false] at hrow
    have hz : z1.size = vs1.size := by
      have hjs : j < ops.size := by rw [← hlen]; exact hlt j _ hj
      obtain ⟨y, hy⟩ := hget j ops[j] (Array.getElem?_eq_getElem hjs)
      have hyj := hy
      rw [hj] at hyj
      injection hyj with hyj; injection hyj with e1 e2
      have := hob j ops[j] y (Array.getElem?_eq_getElem hjs) hy
      rw [← e2] at this
      exact this.1 i vs1 rfl
    rw [hO p listed a w I hneed d1 t1 z1 (some (i, vs1)) n1 hj hrow.2, Oper.upon_skip]
    have st := I.step (q := p) (w' := w.setCells (p j) 0 vs1.toList) hx hD (fun d e => hfit i d (.put j) (by rw [hx, e])) hu (fun _ _ => rfl) (fun _ => rfl) (Below.setCellsAll I.below hrow.1 _ _) ?_ (aprt (by intros; simp))
    · exact hK p _ _ st
    · intro k d t z s vs hk hl
      rw [old k (same (by intros; simp) k d t z s vs hk)] at hl
      by_cases hkj : k = j
      · subst hkj
        rw [hj] at hk
        injection hk with hk; injection hk with e1 e2; injection e2 with e3 e4 e5 e6
        subst e3; subst e4; subst e5; subst e6
        simp only [nowC, getD_set_eq hil, if_true]
        exact ⟨hrow.1, hrow.2.setAll hz⟩
      · have e2 : nowC (listed.setIfInBounds i true) z s = nowC listed z s := now_same fun s' vs' e hs => by
          subst e; subst hs
          have h1 := hstore k d t z s' vs' vs hk
          rw [hx] at h1
          injection h1 with h1; injection h1 with _ h1; injection h1 with h1
          exact hkj h1.symm
        rw [e2]
        have h0 := I.boxed k d t z s vs hk hl
        exact ⟨h0.1, h0.2.setFar (I.apart k j d t z s vs d1 t1 z1 _ n1 hk hj hl hjl hkj) _ _⟩
theorem boxed_fin {L : Plan} {a0 : Act} {w0 : World} (H : PlanOk ops L a0.tmps.size) {R : Act → World → Prop}
    (hend : ∀ p w, BoxI L a0 w0 p (Array.replicate ops.size true) { a0 with tmps := layL p L 0 a0.tmps } w → R { a0 with tmps := layL p L 0 a0.tmps } w) :
    ∀ p listed a w, BoxI L a0 w0 p listed a w → (∀ k, k < ops.size → listed.getD k true = true) → R a w := by
  obtain ⟨hlen, hget, hfit, hguard, hD, hstore, hput, hord, -, -⟩ := H
  have hlt : ∀ (k : Nat) (x : Option Tmp × Pl), L[k]? = some x → k < L.length := fun k x h => (List.getElem?_eq_some_iff.1 h).1
  intro p listed a w I hall
  have hl : listed = Array.replicate ops.size true := by
    apply Array.ext
    · rw [I.size, hlen]; simp
    · intro k h1 h2
      have h3 := hall k (by simpa using h2)
      rw [Array.getD_eq_getD_getElem?, Array.getElem?_eq_getElem h1] at h3
      simpa using h3
  have hlk : ∀ k, k < ops.size → listed.getD k false = true := fun k hk => getD_ft (by rw [I.size, hlen]; exact hk) (hall k hk)
  have ht : a.tmps = layL p L 0 a0.tmps := by
    apply Array.ext_getElem?
    intro s
    by_cases hs : ∃ (k : Nat) (x : Pl), L[k]? = some (some s, x)
    · obtain ⟨k, x, hk⟩ := hs
      rw [I.slot k s x hk (hlk k (by rw [← hlen]; exact hlt k _ hk)), layL_slot p s x L 0 a0.tmps k hD hk (hfit k s x hk), Nat.zero_add]
    · have hs' : ∀ (k : Nat) (x : Pl), L[k]? ≠ some (some s, x) := fun k x e => hs ⟨k, x, e⟩
      rw [I.rest s hs', layL_rest p s L 0 a0.tmps hs']
  have ha : a = { a0 with tmps := layL p L 0 a0.tmps } := by
    have hd := I.df
    cases a
    simp only at ht hd
    rw [ht, hd]
  subst hl
  rw [ha] at I ⊢
  exact hend p w I
theorem needed {i : Nat} {o : Oper} {listed : Array Bool} (ho : ops[i]? = some o) (hdep : ∀ e ∈ o.after, Region.binds .any e = true → listed.getD e.on false = true) : ∀ j, needB ops i j = true → listed.getD j false = true := fun j hj => by
  unfold needB at hj
  rw [ho] at hj
  simp only at hj
  obtain ⟨e, he, h2⟩ := List.any_eq_true.1 hj
  simp only [Bool.and_eq_true, beq_iff_eq] at h2
  rw [← h2.2]
  exact hdep e (by simpa using he) h2.1
theorem needs_set {i : Nat} {listed : Array Bool} (hneed : ∀ j, needB ops i j = true → listed.getD j false = true) (hO0 : ∀ k j, needB ops k j = true → listed.getD k false = true → listed.getD j false = true) :
    ∀ k j, needB ops k j = true → (listed.setIfInBounds i true).getD k false = true → (listed.setIfInBounds i true).getD j false = true := fun k j hkj hl => by
  by_cases hki : k = i
  · subst hki; exact getD_set_true (hneed j hkj)
  · rw [getD_set_ne false (Ne.symm hki)] at hl; exact getD_set_true (hO0 k j hkj hl)
theorem boxed_any {L : Plan} {a0 : Act} {w0 : World} (H : PlanOk ops L a0.tmps.size) (hob : ∀ (k : Nat) (o : Oper) (x : Pl), ops[k]? = some o → L[k]? = some (o.dst, x) → Ob P ops L a0 w0 k o x)
    (hend : ∀ p w, BoxI L a0 w0 p (Array.replicate ops.size true) { a0 with tmps := layL p L 0 a0.tmps } w → Q .normal { a0 with tmps := layL p L 0 a0.tmps } w) :
    ∀ (fuel : Nat) (p : Nat → Nat) (listed : Array Bool) (a : Act) (w : World), BoxI L a0 w0 p listed a w → (∀ k j, needB ops k j = true → listed.getD k false = true → listed.getD j false = true) → ((List.range ops.size).countP fun k => !listed.getD k true) ≤ fuel → wpAny P .any ops Q fuel listed a w := by
  have hfin := boxed_fin (R := Q .normal) H hend
  have hlen := H.len
  have hord := H.ord
  -- the first that has not can
  have hprog : ∀ listed : Array Bool, Region.ready .any ops listed = [] → ∀ k, k < ops.size → listed.getD k true = true := fun listed hr => by
    have key : ∀ n k, k < n → k < ops.size → listed.getD k true = true := by
      intro n
      induction n with
      | zero => intro k h; omega
      | succ n ih =>
        intro k hk hks
        by_cases hkn : k < n
        · exact ih k hkn hks
        · obtain rfl : k = n := by omega
          cases hc : listed.getD k true with
          | true => rfl
          | false =>
            have hsz : k < listed.size := by
              rcases Nat.lt_or_ge k listed.size with h' | h'
              · exact h'
              · rw [Array.getD_eq_getD_getElem?, Array.getElem?_eq_none h'] at hc; cases hc
            have : k ∈ Region.ready .any ops listed := mem_ready.2 ⟨hc, ops[k], Array.getElem?_eq_getElem hks, fun e he hb => by
              have h2 := hord k hks e he hb
              exact getD_ft (by omega) (ih e.on (by omega) (by omega))⟩
            rw [hr] at this
            cases this
    exact fun k hk => key (k + 1) k (by omega) hk
  intro fuel
  induction fuel with
  | zero =>
    intro p listed a w I hO0 hc
    have hall : ∀ k, k < ops.size → listed.getD k true = true := fun k hk => by
      have h0 : ((List.range ops.size).countP fun k => !listed.getD k true) = 0 := by omega
      rw [List.countP_eq_zero] at h0
      simpa using h0 k (List.mem_range.2 hk)
    refine ⟨?_, hfin p listed a w I hall⟩
    apply List.eq_nil_iff_forall_not_mem.2
    intro j hj
    obtain ⟨h1, o, ho, -⟩ := mem_ready.1 hj
    rw [hall j (Array.getElem?_eq_some_iff.1 ho).1] at h1
    cases h1
  | succ fuel ih =>
    intro p listed a w I hO0 hc
    refine ⟨fun hr => hfin p listed a w I (hprog listed hr), fun i hi => ?_⟩
    obtain ⟨hu, o, ho, hdep⟩ := mem_ready.1 hi
    have his : i < ops.size := (Array.getElem?_eq_some_iff.1 ho).1
    have hil : i < listed.size := by rw [I.size, hlen]; exact his
    have hneed := needed ho hdep
    have hcnt : ((List.range ops.size).countP fun k => !(listed.setIfInBounds i true).getD k true) ≤ fuel := by
      have := unlisted_drop hil hu ops.size
      rw [if_pos his] at this
      omega
    exact boxed_step H hob I hO0 his hu hneed fun p' a' w' I' => ih p' _ a' w' I' (needs_set hneed hO0) hcnt
theorem boxed_row {L : Plan} {a0 : Act} {w0 : World} (H : PlanOk ops L a0.tmps.size) (hob : ∀ (k : Nat) (o : Oper) (x : Pl), ops[k]? = some o → L[k]? = some (o.dst, x) → Ob P ops L a0 w0 k o x)
    (hend : ∀ p w, BoxI L a0 w0 p (Array.replicate ops.size true) { a0 with tmps := layL p L 0 a0.tmps } w → Q .normal { a0 with tmps := layL p L 0 a0.tmps } w) :
    ∀ (n k : Nat) (p : Nat → Nat) (listed : Array Bool) (a : Act) (w : World), n + k = ops.size → BoxI L a0 w0 p listed a w → (∀ j, j < ops.size → listed.getD j true = decide (j < k)) → (∀ k j, needB ops k j = true → listed.getD k false = true → listed.getD j false = true) →
      wpOps P ops Q (List.range' k n) a w := by
  intro n
  induction n with
  | zero =>
    intro k p listed a w hn I hl hO0
    exact boxed_fin (R := Q .normal) H hend p listed a w I fun j hj => by rw [hl j hj]; exact decide_eq_true (by omega)
  | succ n ih =>
    intro k p listed a w hn I hl hO0
    have hk : k < ops.size := by omega
    rw [List.range'_succ, wpOps_cons]
    have hneed := needed (listed := listed) (Array.getElem?_eq_getElem hk) fun e he hb => by
      have h2 := H.ord k hk e he hb
      exact getD_ft (by rw [I.size, H.len]; omega) ((hl e.on (by omega)).trans (decide_eq_true h2))
    refine boxed_step H hob I hO0 hk (by rw [hl k hk]; exact decide_eq_false (by omega)) hneed fun p' a' w' I' => ih (k + 1) p' _ a' w' (by omega) I' (fun j hj => ?_) (needs_set hneed hO0)
    by_cases hjk : k = j
    · subst hjk
      rw [getD_at (v := true) (by simp [I.size, H.len, hk])]
      exact (decide_eq_true (by omega)).symm
    · rw [getD_set_ne true hjk, hl j hj]
      simp only [decide_eq_decide]
      omega
def Obs (P : Program) (ops : Array Oper) (L : Plan) (a0 : Act) (w0 : World) : Nat → List Oper → Plan → Prop
  | k, o :: os, (_, x) :: r => Ob P ops L a0 w0 k o x ∧ Obs P ops L a0 w0 (k + 1) os r
  | _, [], [] => True
  | _, _, _ => False
theorem obs_at {L : Plan} {a0 : Act} {w0 : World} : ∀ {os : List Oper} {r : Plan} {n : Nat}, Obs P ops L a0 w0 n os r → ∀ (k : Nat) (o : Oper) (d : Option Tmp) (x : Pl), os[k]? = some o → r[k]? = some (d, x) → Ob P ops L a0 w0 (n + k) o x
  | o :: os, (d, x) :: r, n, h, 0, o', d', x', ho, hx => by
    simp at ho hx
    subst ho
    rw [← hx.2]
    exact h.1
  | o :: os, (d, x) :: r, n, h, k + 1, o', d', x', ho, hx => by
    rw [show n + (k + 1) = (n + 1) + k by omega]
    exact obs_at h.2 k o' d' x' (by simpa using ho) (by simpa using hx)
  | [], _, _, _, k, _, _, _, ho, _ => by simp at ho
  | _ :: _, [], _, _, k, _, _, _, _, hx => by simp at hx
theorem boxed_zero {L : Plan} {a0 : Act} {w0 w : World} (hlen : L.length = ops.size) (hb : Below w0.heap.size w0 w) : BoxI L a0 w0 (fun _ => 0) (Array.replicate ops.size false) a0 w ∧ ∀ k j, needB ops k j = true → (Array.replicate ops.size false).getD k false = true → (Array.replicate ops.size false).getD j false = true := by
  have fa : ∀ k, (Array.replicate ops.size false).getD k false = false := fun k => by
    rw [Array.getD_eq_getD_getElem?]
    cases h : (Array.replicate ops.size false)[k]? with
    | none => rfl
    | some b =>
      have := Array.mem_of_getElem? h
      simp at this
      exact this.2
  refine ⟨⟨by simp [hlen], rfl, rfl, fun k d x hk hl => ?_, fun s _ => rfl, hb, fun k d t z s vs hk hl => ?_, fun k l d t z s vs d' t' z' s' vs' hk hl h1 => ?_⟩, fun k j _ hl => ?_⟩
  · rw [fa] at hl; cases hl
  · rw [fa] at hl; cases hl
  · rw [fa] at h1; cases h1
  · rw [fa] at hl; cases hl
def BoxEnd (L : Plan) (w0 : World) (p : Nat → Nat) (w : World) : Prop := Below w0.heap.size w0 w ∧
  (∀ (k : Nat) (d : Option Tmp) (t : TypeId) (z : Array Value) (s : Option (Nat × Array Value)) (vs : Option Nat), L[k]? = some (d, .box t z s vs) → w0.heap.size ≤ p k ∧ Row w (p k) t (endC z s)) ∧
  (∀ (k l : Nat) (d : Option Tmp) (t : TypeId) (z : Array Value) (s : Option (Nat × Array Value)) (vs : Option Nat) (d' : Option Tmp) (t' : TypeId) (z' : Array Value) (s' : Option (Nat × Array Value)) (vs' : Option Nat), L[k]? = some (d, .box t z s vs) → L[l]? = some (d', .box t' z' s' vs') → k ≠ l → p k ≠ p l)
theorem BoxI.fin {L : Plan} {a0 : Act} {w0 : World} {N : Nat} (H : PlanOk ops L N) {p : Nat → Nat} {a : Act} {w : World} (I : BoxI L a0 w0 p (Array.replicate ops.size true) a w) : BoxEnd L w0 p w := by
  have hlt : ∀ (k : Nat) (x : Option Tmp × Pl), L[k]? = some x → k < ops.size := fun k x h => by rw [← H.len]; exact (List.getElem?_eq_some_iff.1 h).1
  have tr : ∀ k, k < ops.size → (Array.replicate ops.size true).getD k false = true := fun k hk => getD_at (by simp [hk])
  refine ⟨I.below, fun k d t z s vs hk => ?_, fun k l d t z s vs d' t' z' s' vs' hk hl hne => I.apart k l d t z s vs d' t' z' s' vs' hk hl (tr k (hlt k _ hk)) (tr l (hlt l _ hl)) hne⟩
  have h := I.boxed k d t z s vs hk (tr k (hlt k _ hk))
  rcases s with _ | ⟨s, u⟩
  · exact h
  · simp only [nowC, tr s (hlt s _ (H.store k d t z s u vs hk)), if_true] at h
    exact h
theorem ob_of {L : Plan} {a0 : Act} {w0 : World} (hobs : Obs P ops L a0 w0 0 ops.toList L) (k : Nat) (o : Oper) (x : Pl) (ho : ops[k]? = some o) (hx : L[k]? = some (o.dst, x)) : Ob P ops L a0 w0 k o x := by
  have := obs_at hobs k o o.dst x (by simpa using ho) hx
  rwa [Nat.zero_add] at this
theorem region_boxed {id : Nat} {a0 : Act} {w0 : World} (L : Plan) (hm : P.follows .mixedOrders = true) (hB : planB ops L a0.tmps.size = true) (hobs : Obs P ops L a0 w0 0 ops.toList L)
    (hend : ∀ (p : Nat → Nat) w, BoxEnd L w0 p w → Q .normal (litA L a0 p) w) : (Code.region id ops true).wp P Q a0 w0 := by
  have H := planOk hB
  obtain ⟨I, h0⟩ := boxed_zero (a0 := a0) (ops := ops) H.len (Below.refl w0.heap.size w0).drew
  refine wp_region_any hm (boxed_any H (ob_of hobs) (fun p w I => hend p w (I.fin H)) ops.size _ _ a0 _ I h0 ?_)
  have := List.countP_le_length (p := fun k => !(Array.replicate ops.size false).getD k true) (l := List.range ops.size)
  simpa using this
theorem region_row {id : Nat} {a0 : Act} {w0 : World} (L : Plan) (hB : planB ops L a0.tmps.size = true) (hobs : Obs P ops L a0 w0 0 ops.toList L)
    (hend : ∀ (p : Nat → Nat) w, BoxEnd L w0 p w → Q .normal (litA L a0 p) w) : (Code.region id ops false).wp P Q a0 w0 := by
  have H := planOk hB
  obtain ⟨I, h0⟩ := boxed_zero (a0 := a0) (ops := ops) H.len (Below.refl w0.heap.size w0)
  refine wp_region ?_
  rw [List.range_eq_range']
  exact boxed_row H (ob_of hobs) (fun p w I => hend p w (I.fin H)) ops.size 0 _ _ a0 w0 (by omega) I (fun j hj => by rw [getD_at (v := false) (by simp [hj])]; rfl) h0
end
def isM (b n : Int) : Bool := decide (0 ≤ n) && (decide (n < 8) && decide (b / 2 ^ n.toNat % 2 = 1))
def withM (b n : Int) (on : Bool) : Int := if 0 ≤ n ∧ n < 8 then (if isM b n then (if on then b else b - 2 ^ n.toNat) else (if on then b + 2 ^ n.toNat else b)) else b
def countUpto (b : Int) : Nat → Int
  | 0 => 0
  | k + 1 => countUpto b k + if isM b k then 1 else 0
def evenM (b : Int) : Bool := countUpto b 8 % 2 == 0
def signedM (b : Int) : Int := if b < 128 then b else b - 256
def turnUpto (b by_ : Int) : Nat → Int
  | 0 => 0
  | k + 1 => turnUpto b by_ k + if isM b k then 2 ^ (((k : Int) + by_) % 8).toNat else 0
def turnM (b by_ : Int) : Int := turnUpto b by_ 8
def bitsUpto (b : Int) (k : Nat) : List (Fin 8) := ((List.finRange 8).take k).filter (fun n => isM b (n.val : Int))
theorem bitsUpto_yes (b : Int) (k : Nat) (h : k < 8) (y : isM b (k : Int) = true) : bitsUpto b (k + 1) = bitsUpto b k ++ [⟨k, h⟩] := by
  unfold bitsUpto
  rw [List.take_succ_eq_append_getElem (by simpa using h), List.filter_append]
  simp [y]
theorem bitsUpto_no (b : Int) (k : Nat) (h : k < 8) (y : isM b (k : Int) = false) : bitsUpto b (k + 1) = bitsUpto b k := by
  unfold bitsUpto
  rw [List.take_succ_eq_append_getElem (by simpa using h), List.filter_append]
  simp [y]
theorem bitsUpto_length (b : Int) (k : Nat) : (bitsUpto b k).length ≤ k := by
  unfold bitsUpto
  exact Nat.le_trans (List.length_filter_le _ _) (List.length_take_le _ _)
theorem byte_all {P : Int → Prop} (h : ∀ x : Fin 256, P (x.val : Int)) (b : Int) (h0 : 0 ≤ b) (h1 : b ≤ 255) : P b := by
  have := h ⟨b.toNat, by omega⟩
  simpa [Int.toNat_of_nonneg h0] using this
theorem bit_all {P : Int → Prop} (h : ∀ x : Fin 8, P (x.val : Int)) (n : Int) (h0 : 0 ≤ n) (h1 : n < 8) : P n := by
  have := h ⟨n.toNat, by omega⟩
  simpa [Int.toNat_of_nonneg h0] using this
def evenFold (l : List (Fin 8)) : Bool := l.foldl (fun e _ => !e) true
def turnFold (left : Int) (l : List (Fin 8)) : Int := l.foldl (fun t n => withM t (((n.val : Int) + left) % 8) true) 0
theorem evenFold_all (b : Int) (h0 : 0 ≤ b) (h1 : b ≤ 255) : evenFold (bitsUpto b 8) = evenM b :=
  byte_all (P := fun b => evenFold (bitsUpto b 8) = evenM b) (by decide +kernel) b h0 h1
theorem turn_mod (b by_ : Int) : ∀ k, turnUpto b by_ k = turnUpto b (by_ % 8) k
  | 0 => rfl
  | k + 1 => by
    have e : ((k : Int) + by_ % 8) % 8 = ((k : Int) + by_) % 8 := by omega
    simp only [turnUpto, turn_mod b by_ k, e]
theorem turnFold_fin : ∀ (x : Fin 256) (y : Fin 8), turnFold (y.val : Int) (bitsUpto (x.val : Int) 8) = turnM (x.val : Int) (y.val : Int) := by decide +kernel
theorem turnFold_all (b by_ : Int) (h0 : 0 ≤ b) (h1 : b ≤ 255) : turnFold (by_ % 8) (bitsUpto b 8) = turnM b by_ := by
  unfold turnM
  rw [turn_mod]
  exact bit_all (P := fun y => turnFold y (bitsUpto b 8) = turnM b y) (fun y => byte_all (P := fun b => turnFold (y.val : Int) (bitsUpto b 8) = turnM b (y.val : Int)) (fun x => turnFold_fin x y) b h0 h1) (by_ % 8) (by omega) (by omega)
theorem turnM_fin : ∀ (x : Fin 256) (y : Fin 8), 0 ≤ turnM (x.val : Int) (y.val : Int) ∧ turnM (x.val : Int) (y.val : Int) ≤ 255 := by decide +kernel
theorem turnM_byte (b by_ : Int) (h0 : 0 ≤ b) (h1 : b ≤ 255) : 0 ≤ turnM b by_ ∧ turnM b by_ ≤ 255 := by
  unfold turnM
  rw [turn_mod]
  exact bit_all (P := fun y => 0 ≤ turnM b y ∧ turnM b y ≤ 255) (fun y => byte_all (P := fun b => 0 ≤ turnM b (y.val : Int) ∧ turnM b (y.val : Int) ≤ 255) (fun x => turnM_fin x y) b h0 h1) (by_ % 8) (by omega) (by omega)
theorem withM_fin : ∀ (x : Fin 256) (y : Fin 8) (on : Bool), 0 ≤ withM (x.val : Int) (y.val : Int) on ∧ withM (x.val : Int) (y.val : Int) on ≤ 255 := by decide +kernel
theorem withM_byte (b n : Int) (on : Bool) (h0 : 0 ≤ b) (h1 : b ≤ 255) : 0 ≤ withM b n on ∧ withM b n on ≤ 255 := by
  by_cases h : 0 ≤ n ∧ n < 8
  · exact bit_all (P := fun y => 0 ≤ withM b y on ∧ withM b y on ≤ 255) (fun y => byte_all (P := fun b => 0 ≤ withM b (y.val : Int) on ∧ withM b (y.val : Int) on ≤ 255) (fun x => withM_fin x y on) b h0 h1) n h.1 h.2
  · unfold withM; rw [if_neg h]; exact ⟨h0, h1⟩
def B8 (x : Int) : Prop := 0 ≤ x ∧ x ≤ 255
theorem B8.lo {b : Int} (h : B8 b) : 0 ≤ b := h.1
theorem B8.hi {b : Int} (h : B8 b) : b ≤ 255 := h.2
theorem B8.with {b : Int} (h : B8 b) (n : Int) (on : Bool) : B8 (withM b n on) := withM_byte b n on h.1 h.2
theorem B8.zero : B8 0 := ⟨by omega, by omega⟩
def mkM (b0 b1 b2 b3 b4 b5 b6 b7 : Bool) : Int :=
  withM (withM (withM (withM (withM (withM (withM (withM 0 7 b0) 6 b1) 5 b2) 4 b3) 3 b4) 2 b5) 1 b6) 0 b7
theorem mkM_byte (b0 b1 b2 b3 b4 b5 b6 b7 : Bool) : B8 (mkM b0 b1 b2 b3 b4 b5 b6 b7) :=
  (((((((B8.zero.with 7 b0).with 6 b1).with 5 b2).with 4 b3).with 3 b4).with 2 b5).with 1 b6).with 0 b7
theorem of_mkM : ∀ b0 b1 b2 b3 b4 b5 b6 b7 : Bool, isM (mkM b0 b1 b2 b3 b4 b5 b6 b7) 7 = b0 ∧ isM (mkM b0 b1 b2 b3 b4 b5 b6 b7) 6 = b1 ∧ isM (mkM b0 b1 b2 b3 b4 b5 b6 b7) 5 = b2 ∧ isM (mkM b0 b1 b2 b3 b4 b5 b6 b7) 4 = b3 ∧
    isM (mkM b0 b1 b2 b3 b4 b5 b6 b7) 3 = b4 ∧ isM (mkM b0 b1 b2 b3 b4 b5 b6 b7) 2 = b5 ∧ isM (mkM b0 b1 b2 b3 b4 b5 b6 b7) 1 = b6 ∧ isM (mkM b0 b1 b2 b3 b4 b5 b6 b7) 0 = b7 := by decide +kernel
def testM (f cond : Int) : Bool :=
  if cond = 0 then !isM f 6 else if cond = 1 then isM f 6 else if cond = 2 then !isM f 0 else if cond = 3 then isM f 0 else
  if cond = 4 then !isM f 2 else if cond = 5 then isM f 2 else if cond = 6 then !isM f 7 else if cond = 7 then isM f 7 else false
def resultM (r : Int) : Int := mkM (isM r 7) (r == 0) (isM r 5) false (isM r 3) false false false
def evenFM (r : Int) : Int := mkM (isM r 7) (r == 0) (isM r 5) false (isM r 3) (evenM r) false false
def sel (m a b : Bool) : Bool := if m then b else a
def keepM (f old mask : Int) : Int :=
  mkM (sel (isM mask 7) (isM f 7) (isM old 7)) (sel (isM mask 6) (isM f 6) (isM old 6)) (sel (isM mask 5) (isM f 5) (isM old 5)) (sel (isM mask 4) (isM f 4) (isM old 4))
    (sel (isM mask 3) (isM f 3) (isM old 3)) (sel (isM mask 2) (isM f 2) (isM old 2)) (sel (isM mask 1) (isM f 1) (isM old 1)) (sel (isM mask 0) (isM f 0) (isM old 0))
theorem resultM_byte (r : Int) : B8 (resultM r) := mkM_byte ..
theorem evenFM_byte (r : Int) : B8 (evenFM r) := mkM_byte ..
theorem keepM_byte (f old mask : Int) : B8 (keepM f old mask) := mkM_byte ..
def fx (c : Int) : Int := c / 64
def fy (c : Int) : Int := c / 8 % 8
def fz (c : Int) : Int := c % 8
def fp (c : Int) : Int := c / 16 % 4
def fq (c : Int) : Int := c / 8 % 2
def oneB (x y z : Int) : Bool := if x = 0 then z == 6 || (z == 0 && decide (2 ≤ y)) else x == 3 && (z == 6 || (z == 3 && (y == 2 || y == 3)))
def twoB (x y z p q : Int) : Bool := if x = 0 then (z == 1 && q == 0) || (z == 2 && decide (4 ≤ y)) else x == 3 && (z == 2 || (z == 3 && y == 0) || z == 4 || (z == 5 && q == 1 && p == 0))
def sizeP (c : Int) : Int := if oneB (fx c) (fy c) (fz c) then 1 else if twoB (fx c) (fy c) (fz c) (fp c) (fq c) then 2 else 0
def sizeE (c : Int) : Int := if fx c = 1 ∧ fz c = 3 then 2 else 0
def sizeM (plane c : Int) : Int := if plane = 0 ∨ plane = 3 ∨ plane = 4 then sizeP c else if plane = 2 then sizeE c else 0
def pointsM (c : Int) : Bool := if fx c = 0 then fy c == 6 && (decide (4 ≤ fz c) && decide (fz c ≤ 6)) else if fx c = 1 then (fy c == 6) != (fz c == 6) else if fx c = 2 then fz c == 6 else false
def aheadM (plane : Int) : Bool := plane == 5 || plane == 6
def nearM (plane c : Int) : Bool := if plane = 3 ∨ plane = 4 then pointsM c else aheadM plane
theorem sizeP_le (c : Int) : 0 ≤ sizeP c ∧ sizeP c ≤ 2 := by
  unfold sizeP
  split
  · omega
  · split <;> omega
theorem sizeE_le (c : Int) : 0 ≤ sizeE c ∧ sizeE c ≤ 2 := by
  unfold sizeE
  split <;> omega
theorem sizeM_le (plane c : Int) : 0 ≤ sizeM plane c ∧ sizeM plane c ≤ 2 := by
  have h1 := sizeP_le c
  have h2 := sizeE_le c
  unfold sizeM
  split
  · exact h1
  · split
    · exact h2
    · omega
structure OpM where
  plane : Int
  code : Int
  disp : Int
  imm : Int
  len : Int
  skip : Int
def gb (xs : List Int) (i : Nat) : Int := xs.getD i 0
def isPre (c : Int) : Bool := c == 221 || c == 253
def lead : List Int → Nat
  | [] => 0
  | x :: xs => if isPre x then lead xs + 1 else 0
def preP (xs : List Int) (m : Nat) : Int := if m = 0 then 0 else if gb xs (m - 1) = 221 then 3 else 4
def withinM (p : Int) : Int := if p = 3 then 5 else if p = 4 then 6 else 1
def hPlane (p c : Int) : Int := if c = 203 then withinM p else if c = 237 then 2 else p
def hCode (g : Nat → Int) (m : Nat) (p : Int) : Int := if aheadM (hPlane p (g m)) then g (m + 2) else if g m = 203 ∨ g m = 237 then g (m + 1) else g m
def hDisp (g : Nat → Int) (m : Nat) (p : Int) : Int := if aheadM (hPlane p (g m)) then g (m + 1) else if g m = 203 ∨ g m = 237 then 0 else if nearM p (g m) then g (m + 1) else 0
def hSkip (p s c : Int) : Int := if c = 237 ∧ p ≠ 0 then s + 1 else s
def hReads (g : Nat → Int) (m : Nat) (p : Int) : Nat := if aheadM (hPlane p (g m)) then m + 3 else if g m = 203 ∨ g m = 237 then m + 2 else if nearM p (g m) then m + 2 else m + 1
def immM (g : Nat → Int) (r : Nat) (n : Int) : Int := if n = 0 then 0 else if n = 1 then g r else 256 * g (r + 1) + g r
def opAt (g : Nat → Int) (m : Nat) (p s : Int) : OpM :=
  let q := hPlane p (g m)
  let c := hCode g m p
  let r := hReads g m p
  let n := sizeM q c
  ⟨q, c, hDisp g m p, immM g r n, (r : Int) + n, hSkip p s (g m)⟩
def opOf (xs : List Int) : OpM := opAt (gb xs) (lead xs) (preP xs (lead xs)) ((lead xs - 1 : Nat) : Int)
def lenOf (xs : List Int) : Nat := (opOf xs).len.toNat
def okM (xs : List Int) : Bool := decide (lenOf xs ≤ xs.length)
def Bytes8 (xs : List Int) : Prop := ∀ x ∈ xs, B8 x
theorem gb_byte {xs : List Int} (h : Bytes8 xs) (i : Nat) : B8 (gb xs i) := by
  unfold gb
  rw [List.getD_eq_getElem?_getD]
  cases e : xs[i]? with
  | none => exact B8.zero
  | some x => exact h x (List.mem_of_getElem? e)
theorem hReads_ge (g : Nat → Int) (m : Nat) (p : Int) : m + 1 ≤ hReads g m p ∧ hReads g m p ≤ m + 3 := by
  unfold hReads; split <;> (try split) <;> (try split) <;> omega
theorem lenOf_eq (xs : List Int) : (opOf xs).len = (lenOf xs : Int) := by
  have k := sizeM_le (hPlane (preP xs (lead xs)) (gb xs (lead xs))) (hCode (gb xs) (lead xs) (preP xs (lead xs)))
  have e : (opOf xs).len = (hReads (gb xs) (lead xs) (preP xs (lead xs)) : Int) + sizeM (hPlane (preP xs (lead xs)) (gb xs (lead xs))) (hCode (gb xs) (lead xs) (preP xs (lead xs))) := rfl
  unfold lenOf
  omega
theorem lead_lt_len (xs : List Int) : lead xs < lenOf xs := by
  have k := sizeM_le (hPlane (preP xs (lead xs)) (gb xs (lead xs))) (hCode (gb xs) (lead xs) (preP xs (lead xs)))
  have e : (opOf xs).len = (hReads (gb xs) (lead xs) (preP xs (lead xs)) : Int) + sizeM (hPlane (preP xs (lead xs)) (gb xs (lead xs))) (hCode (gb xs) (lead xs) (preP xs (lead xs))) := rfl
  have h := hReads_ge (gb xs) (lead xs) (preP xs (lead xs))
  have := lenOf_eq xs
  omega
structure Cy where
  kind : Int
  addr : Int
  data : Int
  t : Int
deriving DecidableEq
inductive Tr (α : Type) where
  | done (a : α) : Tr α
  | ask (c : Cy) (k : Int → Tr α) : Tr α
def Tr.bind {α β : Type} : Tr α → (α → Tr β) → Tr β
  | .done a, f => f a
  | .ask c k, f => .ask c (fun b => (k b).bind f)
def Tr.run {α : Type} : Tr α → List Int → Except Cy (α × List Int)
  | .done a, xs => .ok (a, xs)
  | .ask c _, [] => .error c
  | .ask _ k, b :: bs => (k b).run bs
theorem Tr.bind_done {α β : Type} (a : α) (f : α → Tr β) : (Tr.done a).bind f = f a := rfl
theorem Tr.run_done {α : Type} (a : α) (xs : List Int) : (Tr.done a).run xs = .ok (a, xs) := by unfold Tr.run; rfl
theorem Tr.run_nil {α : Type} (c : Cy) (k : Int → Tr α) : (Tr.ask c k).run [] = .error c := rfl
theorem Tr.run_cons {α : Type} (c : Cy) (k : Int → Tr α) (b : Int) (bs : List Int) : (Tr.ask c k).run (b :: bs) = (k b).run bs := rfl
theorem Tr.run_bind {α β : Type} (t : Tr α) (f : α → Tr β) : ∀ xs, (t.bind f).run xs = match t.run xs with | .ok (a, ys) => (f a).run ys | .error c => .error c := by
  induction t with
  | done a => intro xs; rw [Tr.run_done]; rfl
  | ask c k ih =>
    intro xs
    cases xs with
    | nil => rfl
    | cons b bs => exact ih b bs
theorem Tr.run_bind_ok {α β : Type} {t : Tr α} {xs ys : List Int} {a : α} (h : t.run xs = .ok (a, ys)) (f : α → Tr β) : (t.bind f).run xs = (f a).run ys := by rw [Tr.run_bind, h]
theorem Tr.run_bind_error {α β : Type} {t : Tr α} {xs : List Int} {c : Cy} (h : t.run xs = .error c) (f : α → Tr β) : (t.bind f).run xs = .error c := by rw [Tr.run_bind, h]
structure Zs where
  pos : Nat
  lacks : Bool
  asked : Cy
def Tr.runZ {α : Type} (xs : List Int) : Tr α → Zs → α × Zs
  | .done a, z => (a, z)
  | .ask c k, z => if z.lacks then (k 0).runZ xs z else if xs.length ≤ z.pos then (k 0).runZ xs { z with lacks := true, asked := c } else (k (xs.getD z.pos 0)).runZ xs { z with pos := z.pos + 1 }
theorem Tr.runZ_bind {α β : Type} (xs : List Int) (t : Tr α) (f : α → Tr β) : ∀ z, (t.bind f).runZ xs z = (f (t.runZ xs z).1).runZ xs (t.runZ xs z).2 := by
  induction t with
  | done a => intro z; rfl
  | ask c k ih =>
    intro z
    simp only [Tr.bind, Tr.runZ]
    split
    · exact ih _ _
    split
    · exact ih _ _
    · exact ih _ _
theorem Tr.runZ_lacks {α : Type} (xs : List Int) (t : Tr α) : ∀ z, z.lacks = true → (t.runZ xs z).2 = z := by
  induction t with
  | done a => intro z _; rfl
  | ask c k ih =>
    intro z h
    simp only [Tr.runZ, h, if_true]
    exact ih _ _ h
theorem Tr.runZ_run {α : Type} (xs : List Int) (t : Tr α) : ∀ z, z.lacks = false → z.pos ≤ xs.length →
    match t.run (xs.drop z.pos) with
    | .ok (a, ys) => (t.runZ xs z).1 = a ∧ (t.runZ xs z).2.lacks = false ∧ (t.runZ xs z).2.asked = z.asked ∧ ys = xs.drop (t.runZ xs z).2.pos ∧ (t.runZ xs z).2.pos ≤ xs.length
    | .error c => (t.runZ xs z).2.lacks = true ∧ (t.runZ xs z).2.asked = c := by
  induction t with
  | done a => intro z h hp; rw [Tr.run_done]; exact ⟨rfl, h, rfl, rfl, hp⟩
  | ask c k ih =>
    intro z h hp
    by_cases hl : xs.length ≤ z.pos
    · rw [show xs.drop z.pos = [] from List.drop_eq_nil_of_le hl, Tr.run_nil]
      simp only [Tr.runZ, h, hl, if_true, Bool.false_eq_true, if_false]
      rw [Tr.runZ_lacks _ _ _ rfl]
      exact ⟨rfl, rfl⟩
    · have hlt : z.pos < xs.length := by omega
      rw [List.drop_eq_getElem_cons hlt, Tr.run_cons]
      simp only [Tr.runZ, h, hl, if_false, Bool.false_eq_true]
      have e : xs.getD z.pos 0 = xs[z.pos] := by rw [List.getD_eq_getElem?_getD, List.getElem?_eq_getElem hlt]; rfl
      rw [e]
      exact ih _ { z with pos := z.pos + 1, lacks := false } rfl (by show z.pos + 1 ≤ xs.length; omega)
def Tr.All {α : Type} (C : Cy → Prop) (P : α → Prop) : Tr α → Prop
  | .done a => P a
  | .ask c k => C c ∧ ∀ b, B8 b → (k b).All C P
theorem Tr.All.bind {α β : Type} {C : Cy → Prop} {P : α → Prop} {Q : β → Prop} {t : Tr α} {f : α → Tr β} (h : t.All C P) (hf : ∀ a, P a → (f a).All C Q) : (t.bind f).All C Q := by
  induction t with
  | done a => exact hf a h
  | ask c k ih => exact ⟨h.1, fun b hb => ih b (h.2 b hb)⟩
theorem Tr.All.mono {α : Type} {C : Cy → Prop} {P Q : α → Prop} {t : Tr α} (h : t.All C P) (hPQ : ∀ a, P a → Q a) : t.All C Q := by
  induction t with
  | done a => exact hPQ a h
  | ask c k ih => exact ⟨h.1, fun b hb => ih b (h.2 b hb)⟩
theorem Bytes8.tail {b : Int} {bs : List Int} (h : Bytes8 (b :: bs)) : Bytes8 bs := fun x hx => h x (List.mem_cons_of_mem _ hx)
theorem Bytes8.head {b : Int} {bs : List Int} (h : Bytes8 (b :: bs)) : B8 b := h b List.mem_cons_self
theorem Tr.All.ok {α : Type} {C : Cy → Prop} {P : α → Prop} {t : Tr α} (h : t.All C P) : ∀ {xs ys : List Int} {a : α}, Bytes8 xs → t.run xs = .ok (a, ys) → P a ∧ Bytes8 ys := by
  induction t with
  | done a =>
    intro xs ys a' hx e
    rw [Tr.run_done] at e
    injection e with e; injection e with e1 e2; subst e1; subst e2
    exact ⟨h, hx⟩
  | ask c k ih =>
    intro xs ys a' hx e
    cases xs with
    | nil => cases e
    | cons b bs => exact ih b (h.2 b hx.head) hx.tail e
theorem Tr.All.error {α : Type} {C : Cy → Prop} {P : α → Prop} {t : Tr α} (h : t.All C P) : ∀ {xs : List Int} {c : Cy}, Bytes8 xs → t.run xs = .error c → C c := by
  induction t with
  | done a => intro xs c hx e; rw [Tr.run_done] at e; cases e
  | ask c k ih =>
    intro xs c' hx e
    cases xs with
    | nil => rw [Tr.run_nil] at e; injection e with e; exact e ▸ h.1
    | cons b bs => exact ih b (h.2 b hx.head) hx.tail e
theorem Bytes8.getD {xs : List Int} (h : Bytes8 xs) (n : Nat) : B8 (xs.getD n 0) := by
  by_cases hn : n < xs.length
  · rw [List.getD_eq_getElem?_getD, List.getElem?_eq_getElem hn]
    exact h _ (List.getElem_mem hn)
  · rw [List.getD_eq_getElem?_getD, List.getElem?_eq_none (by omega)]
    exact B8.zero
theorem Tr.All.z {α : Type} {C : Cy → Prop} {P : α → Prop} {t : Tr α} (h : t.All C P) {xs : List Int} (hx : Bytes8 xs) : ∀ z, P (t.runZ xs z).1 := by
  induction t with
  | done a => intro z; exact h
  | ask c k ih =>
    intro z
    simp only [Tr.runZ]
    split
    · exact ih _ (h.2 _ B8.zero) _
    split
    · exact ih _ (h.2 _ B8.zero) _
    · exact ih _ (h.2 _ (hx.getD _)) _
def Tr.Same {α : Type} : Tr α → Tr α → Prop
  | .done a, .done b => a = b
  | .ask c k, .ask d l => c = d ∧ ∀ b, B8 b → (k b).Same (l b)
  | _, _ => False
theorem Tr.Same.refl {α : Type} (t : Tr α) : t.Same t := by
  induction t with
  | done a => exact rfl
  | ask c k ih => exact ⟨rfl, fun b _ => ih b⟩
theorem Tr.Same.run {α : Type} {t : Tr α} : ∀ {u : Tr α} {xs : List Int}, t.Same u → Bytes8 xs → t.run xs = u.run xs := by
  induction t with
  | done a =>
    intro u xs h hx
    cases u with
    | done b => cases h; rfl
    | ask d l => exact h.elim
  | ask c k ih =>
    intro u xs h hx
    cases u with
    | done b => exact h.elim
    | ask d l =>
      cases xs with
      | nil => rw [Tr.run_nil, Tr.run_nil, h.1]
      | cons b bs => exact ih b (h.2 b hx.head) hx.tail
theorem Tr.Same.bind {α β : Type} {f g : α → Tr β} {C : Cy → Prop} {P : α → Prop} {t : Tr α} : ∀ {u : Tr α}, t.Same u → t.All C P → (∀ a, P a → (f a).Same (g a)) → (t.bind f).Same (u.bind g) := by
  induction t with
  | done a =>
    intro u h hp hf
    cases u with
    | done b => cases h; exact hf a hp
    | ask d l => exact h.elim
  | ask c k ih =>
    intro u h hp hf
    cases u with
    | done b => exact h.elim
    | ask d l => exact ⟨h.1, fun b hb => ih b (h.2 b hb) (hp.2 b hb) hf⟩
structure Rg where
  af : Int
  bc : Int
  de : Int
  hl : Int
  af2 : Int
  bc2 : Int
  de2 : Int
  hl2 : Int
  ix : Int
  iy : Int
  sp : Int
  pc : Int
  wz : Int
  i : Int
  r : Int
  iff1 : Bool
  iff2 : Bool
  halted : Bool
  late : Bool
  mode : Int
deriving DecidableEq
@[reducible] def regsC (g : Rg) : Array Value := #[.int .u16 g.af, .int .u16 g.bc, .int .u16 g.de, .int .u16 g.hl, .int .u16 g.af2, .int .u16 g.bc2, .int .u16 g.de2, .int .u16 g.hl2, .int .u16 g.ix, .int .u16 g.iy, .int .u16 g.sp, .int .u16 g.pc, .int .u16 g.wz,
  .int .u8 g.i, .int .u8 g.r, .bool g.iff1, .bool g.iff2, .bool g.halted, .bool g.late, .int .i64 g.mode]
@[reducible] def zL : Array Value := #[.int .u16 0, .int .u16 0, .int .u16 0, .int .u16 0, .int .u16 0, .int .u16 0, .int .u16 0, .int .u16 0, .int .u16 0, .int .u16 0, .int .u16 0, .int .u16 0, .int .u16 0, .int .u8 0, .int .u8 0, .bool false, .bool false, .bool false, .bool false, .int .i64 0]
@[reducible] def regsV (g : Rg) : Value := .agg (regsC g)
def Wd16 (x : Int) : Prop := 0 ≤ x ∧ x ≤ 65535
theorem Wd16.hi {x : Int} (h : Wd16 x) : B8 (x / 256) := ⟨by have := h.1; omega, by have := h.2; omega⟩
theorem Wd16.lo8 {x : Int} (h : Wd16 x) : B8 (x % 256) := ⟨by omega, by omega⟩
theorem Wd16.mk8 {a b : Int} (ha : B8 a) (hb : B8 b) : Wd16 (256 * a + b) := ⟨by have := ha.1; have := hb.1; omega, by have := ha.2; have := hb.2; omega⟩
theorem Wd16.zero : Wd16 0 := ⟨by omega, by omega⟩
structure RgB (g : Rg) : Prop where
  af : Wd16 g.af
  bc : Wd16 g.bc
  de : Wd16 g.de
  hl : Wd16 g.hl
  af2 : Wd16 g.af2
  bc2 : Wd16 g.bc2
  de2 : Wd16 g.de2
  hl2 : Wd16 g.hl2
  ix : Wd16 g.ix
  iy : Wd16 g.iy
  sp : Wd16 g.sp
  pc : Wd16 g.pc
  wz : Wd16 g.wz
  i : B8 g.i
  r : B8 g.r
  mode : -9223372036854775808 ≤ g.mode ∧ g.mode ≤ 9223372036854775807
def pairG (g : Rg) (plane p : Int) : Int :=
  if p = 0 then g.bc else if p = 1 then g.de else if p = 2 then (if plane = 3 then g.ix else if plane = 4 then g.iy else g.hl) else if p = 3 then g.sp else 0
def setPairG (g : Rg) (plane p w : Int) : Rg :=
  if p = 0 then { g with bc := w } else if p = 1 then { g with de := w } else
  if p = 2 then (if plane = 3 then { g with ix := w } else if plane = 4 then { g with iy := w } else { g with hl := w }) else if p = 3 then { g with sp := w } else g
def getG (g : Rg) (plane k : Int) : Int :=
  if k = 7 then g.af / 256 else if k < 0 ∨ 5 < k then 0 else if k % 2 = 0 then pairG g plane (k / 2) / 256 else pairG g plane (k / 2) % 256
def setG (g : Rg) (plane k b : Int) : Rg :=
  if k = 7 then { g with af := 256 * b + g.af % 256 } else if k < 0 ∨ 5 < k then g else
  if k % 2 = 0 then setPairG g plane (k / 2) (256 * b + pairG g plane (k / 2) % 256) else setPairG g plane (k / 2) (256 * (pairG g plane (k / 2) / 256) + b)
def exxG (g : Rg) : Rg := { g with bc := g.bc2, de := g.de2, hl := g.hl2, bc2 := g.bc, de2 := g.de, hl2 := g.hl }
def swapG (g : Rg) : Rg := { g with af := g.af2, af2 := g.af }
def tickR (r n : Int) : Int := r / 128 * 128 + (r + n) % 128
def tickG (g : Rg) (n : Int) : Rg := { g with r := tickR g.r n }
theorem RgB.pair {g : Rg} (h : RgB g) (plane p : Int) : Wd16 (pairG g plane p) := by
  unfold pairG
  repeat' split
  all_goals first | exact h.bc | exact h.de | exact h.ix | exact h.iy | exact h.hl | exact h.sp | exact Wd16.zero
theorem RgB.setPair {g : Rg} (h : RgB g) (plane p : Int) {w : Int} (hw : Wd16 w) : RgB (setPairG g plane p w) := by
  obtain ⟨h1, h2, h3, h4, h5, h6, h7, h8, h9, h10, h11, h12, h13, h14, h15, h16⟩ := h
  unfold setPairG
  repeat' split
  all_goals constructor <;> assumption
theorem getG_no (g : Rg) (plane k : Int) (h : k < 0 ∨ k = 6 ∨ 7 < k) : getG g plane k = 0 := by
  unfold getG
  rw [if_neg (by omega), if_pos (by omega)]
theorem setG_no (g : Rg) (plane k b : Int) (h : k < 0 ∨ k = 6 ∨ 7 < k) : setG g plane k b = g := by
  unfold setG
  rw [if_neg (by omega), if_pos (by omega)]
theorem RgB.get {g : Rg} (h : RgB g) (plane k : Int) : B8 (getG g plane k) := by
  unfold getG
  repeat' split
  · exact h.af.hi
  · exact B8.zero
  · exact (h.pair ..).hi
  · exact (h.pair ..).lo8
theorem RgB.set {g : Rg} (h : RgB g) (plane k : Int) {b : Int} (hb : B8 b) : RgB (setG g plane k b) := by
  unfold setG
  split
  · have h' := Wd16.mk8 hb h.af.lo8
    obtain ⟨h1, h2, h3, h4, h5, h6, h7, h8, h9, h10, h11, h12, h13, h14, h15, h16⟩ := h
    constructor <;> assumption
  split
  · exact h
  split
  · exact h.setPair _ _ (Wd16.mk8 hb (h.pair ..).lo8)
  · exact h.setPair _ _ (Wd16.mk8 (h.pair ..).hi hb)
theorem RgB.exx {g : Rg} (h : RgB g) : RgB (exxG g) := by
  obtain ⟨h1, h2, h3, h4, h5, h6, h7, h8, h9, h10, h11, h12, h13, h14, h15, h16⟩ := h
  constructor <;> assumption
theorem RgB.swap {g : Rg} (h : RgB g) : RgB (swapG g) := by
  obtain ⟨h1, h2, h3, h4, h5, h6, h7, h8, h9, h10, h11, h12, h13, h14, h15, h16⟩ := h
  constructor <;> assumption
theorem tickR_b {r : Int} (h : B8 r) (n : Int) : B8 (tickR r n) := by
  obtain ⟨h0, h1⟩ := h
  unfold tickR
  constructor <;> omega
theorem RgB.tick {g : Rg} (h : RgB g) (n : Int) : RgB (tickG g n) := by
  have h' := tickR_b h.r n
  obtain ⟨h1, h2, h3, h4, h5, h6, h7, h8, h9, h10, h11, h12, h13, h14, h15, h16⟩ := h
  constructor <;> assumption
theorem ret_int {k : IntKind} {a b : Int} (h : a = b) : Ending.returned (.int k a) = .returned (.int k b) := by rw [h]
theorem ret_bool {a b : Bool} (h : a = b) : Ending.returned (.bool a) = .returned (.bool b) := by rw [h]
theorem bstep {a b c : World} (h : Below a.heap.size a b) (k : Below b.heap.size b c) : Below a.heap.size a c := h.trans (k.mono h.size)
theorem wraps16 (n : Int) (h₀ : 0 ≤ n) (h₁ : n < 2 ^ 16) : IntKind.u16.wrap n = n := by rw [IntKind.wrap_u16]; omega
theorem and_bit_fin : ∀ (x : Fin 256) (y : Fin 8), (bits BinOp.and IntKind.u8 (x.val : Int) (2 ^ (y.val : Int).toNat % 256) != 0) = isM (x.val : Int) (y.val : Int) := by decide +kernel
theorem and_bit (b n : Int) (h0 : 0 ≤ b) (h1 : b ≤ 255) (h2 : 0 ≤ n) (h3 : n < 8) : (bits BinOp.and IntKind.u8 b (2 ^ n.toNat % 256) != 0) = isM b n :=
  bit_all (P := fun n => (bits BinOp.and IntKind.u8 b (2 ^ n.toNat % 256) != 0) = isM b n) (fun y => byte_all (P := fun b => (bits BinOp.and IntKind.u8 b (2 ^ (y.val : Int).toNat % 256) != 0) = isM b (y.val : Int)) (fun x => and_bit_fin x y) b h0 h1) n h2 h3
theorem or_bit_fin : ∀ (x : Fin 256) (y : Fin 8), bits BinOp.or IntKind.u8 (x.val : Int) (2 ^ (y.val : Int).toNat % 256) = withM (x.val : Int) (y.val : Int) true := by decide +kernel
theorem or_bit (b n : Int) (h0 : 0 ≤ b) (h1 : b ≤ 255) (h2 : 0 ≤ n) (h3 : n < 8) : bits BinOp.or IntKind.u8 b (2 ^ n.toNat % 256) = withM b n true :=
  bit_all (P := fun n => bits BinOp.or IntKind.u8 b (2 ^ n.toNat % 256) = withM b n true) (fun y => byte_all (P := fun b => bits BinOp.or IntKind.u8 b (2 ^ (y.val : Int).toNat % 256) = withM b (y.val : Int) true) (fun x => or_bit_fin x y) b h0 h1) n h2 h3
theorem not_bit_fin : ∀ (x : Fin 256) (y : Fin 8), bits BinOp.andNot IntKind.u8 (x.val : Int) (2 ^ (y.val : Int).toNat % 256) = withM (x.val : Int) (y.val : Int) false := by decide +kernel
theorem not_bit (b n : Int) (h0 : 0 ≤ b) (h1 : b ≤ 255) (h2 : 0 ≤ n) (h3 : n < 8) : bits BinOp.andNot IntKind.u8 b (2 ^ n.toNat % 256) = withM b n false :=
  bit_all (P := fun n => bits BinOp.andNot IntKind.u8 b (2 ^ n.toNat % 256) = withM b n false) (fun y => byte_all (P := fun b => bits BinOp.andNot IntKind.u8 b (2 ^ (y.val : Int).toNat % 256) = withM b (y.val : Int) false) (fun x => not_bit_fin x y) b h0 h1) n h2 h3
theorem signed_fin : ∀ x : Fin 256, wrap64 (IntKind.i8.wrap (x.val : Int)) = signedM (x.val : Int) := by decide +kernel
theorem isM_out (b n : Int) (h : n < 0 ∨ 8 ≤ n) : isM b n = false := by
  unfold isM
  rcases h with h | h
  · rw [decide_eq_false (show ¬ 0 ≤ n by omega)]; rfl
  · rw [decide_eq_false (show ¬ n < 8 by omega)]; simp
theorem isM_in (b n : Int) (h0 : 0 ≤ n) (h1 : n < 8) : isM b n = decide (b / 2 ^ n.toNat % 2 = 1) := by
  unfold isM
  rw [decide_eq_true h0, decide_eq_true h1]; rfl
theorem lo_any (x : Int) (h0 : 0 ≤ x) (h1 : x ≤ 65535) (w : World) :
    Calls Tryz.prog 196 #[.int .u16 x] w fun e w' => e = .returned (.int .u8 (x % 256)) ∧ w = w' := by
  go_enter Tryz.func196, Tryz.ntmps196
  go_wp2
  go_ret
  exact ⟨rfl, rfl⟩
theorem hi_any (x : Int) (h0 : 0 ≤ x) (h1 : x ≤ 65535) (w : World) :
    Calls Tryz.prog 106 #[.int .u16 x] w fun e w' => e = .returned (.int .u8 (x / 256)) ∧ w = w' := by
  go_enter Tryz.func106, Tryz.ntmps106
  go_wp2
  go_ret
  exact ⟨rfl, rfl⟩
theorem word_any (x y : Int) (h0 : 0 ≤ x) (h1 : x ≤ 255) (h2 : 0 ≤ y) (h3 : y ≤ 255) (w : World) :
    Calls Tryz.prog 115 #[.int .u8 x, .int .u8 y] w fun e w' => e = .returned (.int .u16 (256 * x + y)) ∧ w = w' := by
  go_enter Tryz.func115, Tryz.ntmps115
  go_wp2
  go_ret
  exact ⟨ret_int (by rw [bits_join .u16 16 (by decide) wraps16 8 (x * 256) y (by omega) (by omega) (by omega) (by omega) (by omega) (by omega)]; omega), rfl⟩
theorem signed_any (x : Int) (h0 : 0 ≤ x) (h1 : x ≤ 255) (w : World) :
    Calls Tryz.prog 220 #[.int .u8 x] w fun e w' => e = .returned (.int .i64 (signedM x)) ∧ w = w' := by
  go_enter Tryz.func220, Tryz.ntmps220
  go_wp2
  go_ret
  exact ⟨ret_int (byte_all (P := fun x => wrap64 (IntKind.i8.wrap x) = signedM x) signed_fin x h0 h1), rfl⟩
theorem has_any (n : Int) (w : World) :
    Calls Tryz.prog 200 #[.int .i64 n] w fun e w' => e = .returned (.bool (decide (0 ≤ n) && decide (n < 8))) ∧ w = w' := by
  by_cases h : 0 ≤ n
  · go_enter Tryz.func200, Tryz.ntmps200
    go_wp2
    go_ret
    exact ⟨ret_bool (by rw [decide_eq_true h]; rfl), rfl⟩
  · go_enter Tryz.func200, Tryz.ntmps200
    go_wp2
    go_ret
    exact ⟨ret_bool (by rw [decide_eq_false (by omega)]; rfl), rfl⟩
theorem has_yes (n : Int) (h0 : 0 ≤ n) (h1 : n < 8) (w : World) :
    Calls Tryz.prog 200 #[.int .i64 n] w fun e w' => e = .returned (.bool true) ∧ w = w' :=
  (has_any n w).mono fun _ _ ⟨he, hw⟩ => ⟨he.trans (ret_bool (by rw [decide_eq_true h0, decide_eq_true h1]; rfl)), hw⟩
theorem has_no (n : Int) (h : n < 0 ∨ 8 ≤ n) (w : World) :
    Calls Tryz.prog 200 #[.int .i64 n] w fun e w' => e = .returned (.bool false) ∧ w = w' :=
  (has_any n w).mono fun _ _ ⟨he, hw⟩ => ⟨he.trans (ret_bool (by
    rcases h with h | h
    · rw [decide_eq_false (by omega)]; rfl
    · rw [decide_eq_false (show ¬ n < 8 by omega)]; simp)), hw⟩
theorem is_any (b n : Int) (h0 : 0 ≤ b) (h1 : b ≤ 255) (w : World) :
    Calls Tryz.prog 199 #[.int .u8 b, .int .i64 n] w fun e w' => e = .returned (.bool (isM b n)) ∧ w = w' := by
  by_cases h : 0 ≤ n ∧ n < 8
  · obtain ⟨h2, h3⟩ := h
    go_enter Tryz.func199, Tryz.ntmps199
    go_wp2_with (go_at_call 200; refine (has_yes _ (by omega) (by omega) _).mono ?_; rintro e w' ⟨rfl, rfl⟩)
    go_ret
    exact ⟨ret_bool (and_bit b n h0 h1 h2 h3), rfl⟩
  · have h' : n < 0 ∨ 8 ≤ n := by omega
    clear h
    go_enter Tryz.func199, Tryz.ntmps199
    go_wp2_with (go_at_call 200; refine (has_no _ h' _).mono ?_; rintro e w' ⟨rfl, rfl⟩)
    go_ret
    exact ⟨ret_bool (isM_out b n h').symm, rfl⟩
theorem with_any (b n : Int) (on : Bool) (h0 : 0 ≤ b) (h1 : b ≤ 255) (w : World) :
    Calls Tryz.prog 108 #[.int .u8 b, .int .i64 n, .bool on] w fun e w' => e = .returned (.int .u8 (withM b n on)) ∧ w = w' := by
  by_cases h : 0 ≤ n ∧ n < 8
  · obtain ⟨h2, h3⟩ := h
    cases on
    · go_enter Tryz.func108, Tryz.ntmps108
      go_wp2_with (go_at_call 200; refine (has_yes _ (by omega) (by omega) _).mono ?_; rintro e w' ⟨rfl, rfl⟩)
      go_ret
      exact ⟨ret_int (not_bit b n h0 h1 h2 h3), rfl⟩
    · go_enter Tryz.func108, Tryz.ntmps108
      go_wp2_with (go_at_call 200; refine (has_yes _ (by omega) (by omega) _).mono ?_; rintro e w' ⟨rfl, rfl⟩)
      go_ret
      exact ⟨ret_int (or_bit b n h0 h1 h2 h3), rfl⟩
  · have h' : n < 0 ∨ 8 ≤ n := by omega
    have e : withM b n on = b := by unfold withM; rw [if_neg h]
    rw [e]
    clear h e
    go_enter Tryz.func108, Tryz.ntmps108
    go_wp2_with (go_at_call 200; refine (has_no _ h' _).mono ?_; rintro e w' ⟨rfl, rfl⟩)
    go_ret
    exact ⟨rfl, rfl⟩
theorem rlo_any (x : Int) (h0 : 0 ≤ x) (h1 : x ≤ 65535) (w : World) :
    Calls Tryz.prog 153 #[.int .u16 x] w fun e w' => e = .returned (.int .u8 (x % 256)) ∧ w = w' := by
  go_enter Tryz.func153, Tryz.ntmps153
  go_wp2
  go_ret
  exact ⟨rfl, rfl⟩
theorem rhi_any (x : Int) (h0 : 0 ≤ x) (h1 : x ≤ 65535) (w : World) :
    Calls Tryz.prog 89 #[.int .u16 x] w fun e w' => e = .returned (.int .u8 (x / 256)) ∧ w = w' := by
  go_enter Tryz.func89, Tryz.ntmps89
  go_wp2
  go_ret
  exact ⟨rfl, rfl⟩
theorem rword_any (x y : Int) (h0 : 0 ≤ x) (h1 : x ≤ 255) (h2 : 0 ≤ y) (h3 : y ≤ 255) (w : World) :
    Calls Tryz.prog 156 #[.int .u8 x, .int .u8 y] w fun e w' => e = .returned (.int .u16 (256 * x + y)) ∧ w = w' := by
  go_enter Tryz.func156, Tryz.ntmps156
  go_wp2
  go_ret
  exact ⟨rfl, rfl⟩
theorem rsigned_any (x : Int) (h0 : 0 ≤ x) (h1 : x ≤ 255) (w : World) :
    Calls Tryz.prog 94 #[.int .u8 x] w fun e w' => e = .returned (.int .i64 (signedM x)) ∧ w = w' := by
  by_cases h : x < 128
  · have e : signedM x = x := if_pos h
    rw [e]; clear e
    go_enter Tryz.func94, Tryz.ntmps94
    go_wp2
    go_ret
    exact ⟨rfl, rfl⟩
  · have e : signedM x = x - 256 := if_neg h
    rw [e]; clear e
    go_enter Tryz.func94, Tryz.ntmps94
    go_wp2
    go_ret
    exact ⟨rfl, rfl⟩
theorem pow_step (k : Nat) : (2 : Int) ^ (k + 1) = 2 ^ k * 2 := Int.pow_succ 2 k
theorem pow_bound (k : Nat) (h : k ≤ 8) : 1 ≤ (2 : Int) ^ k ∧ (2 : Int) ^ k ≤ 256 := by
  have : ∀ k : Fin 9, 1 ≤ (2 : Int) ^ k.val ∧ (2 : Int) ^ k.val ≤ 256 := by decide +kernel
  exact this ⟨k, by omega⟩
theorem rpower_any (n : Int) (h0 : 0 ≤ n) (h1 : n ≤ 8) (w : World) :
    Calls Tryz.prog 158 #[.int .i64 n] w fun e w' => e = .returned (.int .i64 (2 ^ n.toNat)) ∧ w = w' := by
  go_enter Tryz.func158, Tryz.ntmps158
  go_wp2
  go_loop [3, 4] (fun x i => ∃ k : Nat, (k : Int) ≤ n ∧ i = .int .i64 k ∧ x = .int .i64 (2 ^ k)) (fun _ i => n.toNat - (intOf i).toNat)
  case atStart => exact ⟨0, by omega, rfl, rfl⟩
  case round =>
    obtain ⟨k, hk, rfl, rfl⟩ := hrel
    have hb := pow_bound k (by omega)
    by_cases hlt : (k : Int) < n
    · go_wp2
      go_round
      case rel => exact ⟨k + 1, by omega, by go_num, by rw [pow_step]⟩
      case measure => simp [intOf]; omega
    · obtain rfl : n = k := by omega
      go_wp2
      go_ret
      exact ⟨rfl, rfl⟩
theorem isM_i64 (b n : Int) (h0 : 0 ≤ n) (h1 : n < 8) : (b / 2 ^ n.toNat % 2 == 1) = isM b n := by
  rw [isM_in b n h0 h1]; by_cases h : b / 2 ^ n.toNat % 2 = 1 <;> simp [h]
theorem ris_any (b n : Int) (h0 : 0 ≤ b) (h1 : b ≤ 255) (w : World) :
    Calls Tryz.prog 157 #[.int .u8 b, .int .i64 n] w fun e w' => e = .returned (.bool (isM b n)) ∧ w = w' := by
  by_cases h : 0 ≤ n
  · by_cases h' : n < 8
    · obtain ⟨k, hk, hk8⟩ : ∃ k : Nat, n = k ∧ k ≤ 7 := ⟨n.toNat, by omega, by omega⟩
      have hb := pow_bound k (by omega)
      have hq : isM b n = (b / 2 ^ n.toNat % 2 == 1) := (isM_i64 b n h h').symm
      rw [hq]
      subst hk
      clear hq
      have hp : 0 < (2 : Int) ^ k := by omega
      have hd0 : 0 ≤ b / 2 ^ k := Int.ediv_nonneg h0 (by omega)
      have hd1 : b / 2 ^ k ≤ 255 := Int.le_trans (Int.ediv_le_self _ h0) h1
      go_enter Tryz.func157, Tryz.ntmps157
      go_wp2_with (go_at_call 158; refine (rpower_any _ (by omega) (by omega) _).mono ?_; rintro e w' ⟨rfl, rfl⟩)
      go_ret
      exact ⟨rfl, rfl⟩
    · rw [isM_out b n (by omega)]
      go_enter Tryz.func157, Tryz.ntmps157
      go_wp2
      go_ret
      exact ⟨rfl, rfl⟩
  · rw [isM_out b n (by omega)]
    go_enter Tryz.func157, Tryz.ntmps157
    go_wp2
    go_ret
    exact ⟨rfl, rfl⟩
theorem withM_in (b n : Int) (on : Bool) (h0 : 0 ≤ n) (h1 : n < 8) : withM b n on = (if isM b n then (if on then b else b - 2 ^ n.toNat) else (if on then b + 2 ^ n.toNat else b)) := by
  unfold withM; rw [if_pos ⟨h0, h1⟩]
theorem rwith_any (b n : Int) (on : Bool) (h0 : 0 ≤ b) (h1 : b ≤ 255) (w : World) :
    Calls Tryz.prog 76 #[.int .u8 b, .int .i64 n, .bool on] w fun e w' => e = .returned (.int .u8 (withM b n on)) ∧ w = w' := by
  by_cases h : 0 ≤ n
  · by_cases h' : n < 8
    · have hw := withM_byte b n on h0 h1
      rw [withM_in b n on h h'] at hw ⊢
      obtain ⟨k, hk, hk8⟩ : ∃ k : Nat, n = k ∧ k ≤ 7 := ⟨n.toNat, by omega, by omega⟩
      have hb := pow_bound k (by omega)
      subst hk
      simp only [Int.toNat_natCast] at hw ⊢
      cases on <;> cases hm : isM b k <;> simp only [hm, if_true, if_false, Bool.false_eq_true] at hw ⊢
      all_goals
        go_enter Tryz.func76, Tryz.ntmps76
        go_wp2_with (first | (go_at_call 157; refine (ris_any _ _ h0 h1 _).mono ?_; rintro e w' ⟨rfl, rfl⟩) | (go_at_call 158; refine (rpower_any _ (by omega) (by omega) _).mono ?_; rintro e w' ⟨rfl, rfl⟩))
        go_ret
        exact ⟨rfl, rfl⟩
    · rw [show withM b n on = b from by unfold withM; rw [if_neg (by omega)]]
      go_enter Tryz.func76, Tryz.ntmps76
      go_wp2
      go_ret
      exact ⟨rfl, rfl⟩
  · rw [show withM b n on = b from by unfold withM; rw [if_neg (by omega)]]
    go_enter Tryz.func76, Tryz.ntmps76
    go_wp2
    go_ret
    exact ⟨rfl, rfl⟩
theorem count_bound (b : Int) : ∀ k : Nat, 0 ≤ countUpto b k ∧ countUpto b k ≤ k
  | 0 => ⟨by simp [countUpto], by simp [countUpto]⟩
  | k + 1 => by
    have := count_bound b k
    simp only [countUpto]
    split <;> omega
theorem count_yes (b : Int) (k : Nat) (h : isM b k = true) : countUpto b (k + 1) = countUpto b k + 1 := by simp [countUpto, h]
theorem count_no (b : Int) (k : Nat) (h : isM b k = false) : countUpto b (k + 1) = countUpto b k := by simp [countUpto, h]
theorem rcount_any (b : Int) (h0 : 0 ≤ b) (h1 : b ≤ 255) (w : World) :
    Calls Tryz.prog 246 #[.int .u8 b] w fun e w' => e = .returned (.int .i64 (countUpto b 8)) ∧ w = w' := by
  go_enter Tryz.func246, Tryz.ntmps246
  go_wp2
  go_loop [3, 4] (fun x i => ∃ k : Nat, k ≤ 8 ∧ i = .int .i64 k ∧ x = .int .i64 (countUpto b k)) (fun _ i => 8 - (intOf i).toNat)
  case atStart => exact ⟨0, by omega, rfl, rfl⟩
  case round =>
    obtain ⟨k, hk, rfl, rfl⟩ := hrel
    have hb := count_bound b k
    by_cases hlt : k < 8
    · cases hm : isM b k
      · have HS := Lib.hid (count_no b k hm)
        go_wp2_with (go_at_call 157; refine (ris_any _ _ h0 h1 _).mono ?_; rintro e w' ⟨rfl, rfl⟩)
        go_round
        case rel => exact ⟨k + 1, by omega, by go_num, by rw [HS.out]⟩
        case measure => simp [intOf]; omega
      · have HS := Lib.hid (count_yes b k hm)
        go_wp2_with (go_at_call 157; refine (ris_any _ _ h0 h1 _).mono ?_; rintro e w' ⟨rfl, rfl⟩)
        go_round
        case rel => exact ⟨k + 1, by omega, by go_num, by rw [HS.out]⟩
        case measure => simp [intOf]; omega
    · obtain rfl : k = 8 := by omega
      go_wp2
      go_ret
      exact ⟨rfl, rfl⟩
theorem reven_any (b : Int) (h0 : 0 ≤ b) (h1 : b ≤ 255) (w : World) :
    Calls Tryz.prog 160 #[.int .u8 b] w fun e w' => e = .returned (.bool (evenM b)) ∧ w = w' := by
  have hb := count_bound b 8
  go_enter Tryz.func160, Tryz.ntmps160
  go_wp2_with (go_at_call 246; refine (rcount_any _ h0 h1 _).mono ?_; rintro e w' ⟨rfl, rfl⟩)
  go_ret
  exact ⟨rfl, rfl⟩
section
open Go.RowKit Go.Shelf
attribute [local go_sem] Oper.semAt_some
def KeepsBox (B : Nat) (W W' : World) : Prop := W'.heap[B]? = W.heap[B]?
theorem keepsBox_t {B : Nat} {X Y Z : World} (h : KeepsBox B X Y) (k : KeepsBox B Y Z) : KeepsBox B X Z := Eq.trans k h
theorem keepsBox_b {B : Nat} {w : World} (hB : B < w.heap.size) (W : World) (l : Nat) (o o' : Obj) (hl : w.heap.size ≤ l) (_ : W.heap[l]? = some o) (_ : o.isCells = false) (_ : o.isWalk = false) : KeepsBox B W (W.putObj l o') :=
  World.putObj_heap_other (by omega)
theorem keepsBox_set {B b : Nat} (hB : B ≠ b) (W : World) (v : Value) : KeepsBox B W (W.setCell ⟨b, 0, none⟩ v) := Below.heap_setCell _ _ _ B hB
theorem KeepsBox.boxed {B : Nat} {W W' : World} {t : TypeId} {v : Value} (k : KeepsBox B W W') (h : Boxed W B t v) : Boxed W' B t v := Eq.trans k h
theorem each1_in (n : Nat) (hn : 1 ≤ n) (l Bs : Nat) (b : Int) (h0 : 0 ≤ b) (h1 : b ≤ 255) (J Jx : List (Fin 8) → World → Prop)
    (hY : ∀ pre x W, J pre W → pre.length < 8 → YieldAt Fence.wide (n - 1) Tryz.prog l #[.int .i64 (x.val : Int)] W fun e W' =>
      (e = .returned (.bool true) ∧ J (pre ++ [x]) W' ∧ KeepsBox Bs W W') ∨ (e = .returned (.bool false) ∧ Jx (pre ++ [x]) W'))
    (W : World) (hBs : Boxed W Bs 5 (.int .u8 b)) (hJ0 : J [] W) :
    CallsIn Fence.wide n Tryz.prog 304 #[.func (.yield l) #[] #[], .pointer (some ⟨Bs, 0, none⟩)] W fun e W' => (∃ v, e = .returned v) ∧
      ((∃ ys, ys = bitsUpto b 8 ∧ J ys W') ∨ (∃ pre, (∃ k : Nat, k < 8 ∧ isM b (k : Int) = true ∧ pre = bitsUpto b (k + 1)) ∧ Jx pre W')) := by
  refine callsIn_of_wp Tryz.func304 rfl trivial ?_ rfl
  simp only [Tryz.ntmps304, List.size_toArray, List.length_cons, List.length_nil, Nat.reduceAdd, Nat.reduceSub, Array.replicate_succ, Array.replicate_zero, List.push_toArray, List.append_toArray, List.nil_append, List.cons_append]
  gi_wp2
  gi_loopw [4] (fun i wr => ∃ k : Nat, k ≤ 8 ∧ i = .int .i64 k ∧ J (bitsUpto b k) wr ∧ Boxed wr Bs 5 (.int .u8 b))
    (fun i _ => 8 - (intOf i).toNat)
  case atStart => exact ⟨0, Nat.zero_le _, rfl, hJ0, hBs⟩
  case round =>
    obtain ⟨k, hk, rfl, hJs, hnx⟩ := hrel
    have hcx := hnx.cell
    by_cases hlt : k < 8
    · cases hm : isM b k
      · have HS := Lib.hid (bitsUpto_no b k hlt hm)
        gi_wp2_with (refine ⟨trivial, ?_⟩; gi_at_call 199; refine (callsIn_wide.2 (is_any _ _ h0 h1 _)).mono ?_; rintro e w' ⟨rfl, rfl⟩)
        refine ⟨fun _ h => (by cases h), ?_⟩
        gi_wp2
        go_roundw
        case rel => exact ⟨k + 1, by omega, by simp, by rw [HS.out]; exact hJs, hnx⟩
        case measure => simp [intOf]; omega
      · have HS := Lib.hid (bitsUpto_yes b k hlt hm)
        obtain ⟨fn, tmps, assign, body, hy, hR⟩ := hY _ ⟨k, hlt⟩ wr hJs (Nat.lt_of_le_of_lt (bitsUpto_length b k) hlt)
        gi_wp2_with (refine ⟨trivial, ?_⟩; gi_at_call 199; refine (callsIn_wide.2 (is_any _ _ h0 h1 _)).mono ?_; rintro e w' ⟨rfl, rfl⟩)
        gi_wp2
        refine hR.mono ?_
        rintro e W3 (⟨rfl, hJ3, hk3⟩ | ⟨rfl, hJx3⟩)
        · gi_wp2
          go_roundw
          case rel => exact ⟨k + 1, by omega, by simp, by rw [HS.out]; exact hJ3, hk3.boxed hnx⟩
          case measure => simp [intOf]; omega
        · gi_wp2
          refine bodyPost_ret (results_none rfl _ _ _) rfl ?_
          exact ⟨⟨_, rfl⟩, .inr ⟨_, ⟨k, hlt, hm, HS.out.symm⟩, hJx3⟩⟩
    · obtain rfl : k = 8 := by omega
      gi_wp2
      go_end0
      exact ⟨⟨_, rfl⟩, .inl ⟨_, rfl, hJs⟩⟩
theorem each_in (n : Nat) (b : Int) (w : World) :
    CallsIn Fence.wide n Tryz.prog 294 #[.int .u8 b] w fun e w' => e = .returned (.func (.func 304) #[] #[.pointer (some ⟨w.heap.size, 0, none⟩)]) ∧ w' = w.alloc (.cells #[.int .u8 b] 5) := by
  refine callsIn_of_wp Tryz.func294 rfl trivial ?_ rfl
  simp only [Tryz.ntmps294, List.size_toArray, List.length_cons, List.length_nil, Nat.reduceAdd, Nat.reduceSub, Array.replicate_succ, Array.replicate_zero, List.push_toArray, List.append_toArray, List.nil_append, List.cons_append]
  gi_wp2
  go_ret
  exact ⟨rfl, rfl⟩
def partOf (b : Int) (pre : List (Fin 8)) : Prop := ∃ k : Nat, k < 8 ∧ isM b (k : Int) = true ∧ pre = bitsUpto b (k + 1)
theorem each_stops (n : Nat) (hn : 1 ≤ n) (Bs : Nat) (b : Int) (h0 : 0 ≤ b) (h1 : b ≤ 255) (w : World) (hc : Boxed w Bs 5 (.int .u8 b)) :
    SeqStopsK Fence.wide n Tryz.prog 304 #[.pointer (some ⟨Bs, 0, none⟩)] (fun x : Fin 8 => #[Value.int .i64 (x.val : Int)]) (KeepsBox Bs) (fun ys => ys = bitsUpto b 8) (partOf b) 8 w := fun l J Jx W hW _ _ hY hJ0 =>
  each1_in n hn l Bs b h0 h1 J Jx hY W ((hW.block Bs hc.lt).trans hc) hJ0
theorem evenFold_snoc (l : List (Fin 8)) (x : Fin 8) : evenFold (l ++ [x]) = !evenFold l := by simp [evenFold]
theorem even_in (b : Int) (h0 : 0 ≤ b) (h1 : b ≤ 255) (w : World) :
    CallsIn Fence.wide 4 Tryz.prog 265 #[.int .u8 b] w fun e W' => e = .returned (.bool (evenM b)) ∧ Below w.heap.size w W' := by
  refine callsIn_of_wp_marks Tryz.func265 rfl trivial ?_ rfl
  simp only [Tryz.ntmps265, List.size_toArray, List.length_cons, List.length_nil, Nat.reduceAdd, Nat.reduceSub, Array.replicate_succ, Array.replicate_zero, List.push_toArray, List.append_toArray, List.nil_append, List.cons_append]
  gi_wp2_with (refine ⟨trivial, ?_⟩; gi_at_call 294; refine (each_in _ _ _).mono ?_; rintro e w' ⟨rfl, rfl⟩)
  have bS := Boxed.new w 4 (.bool true)
  have bN := Boxed.new (w.alloc (.cells #[.bool true] 4)) 5 (.int .u8 b)
  rw [World.size_alloc] at bN
  have hB0 : Below w.heap.size w ((w.alloc (.cells #[.bool true] 4)).alloc (.cells #[.int .u8 b] 5)) := ((Below.refl _ w).alloc (Nat.le_refl _) _).alloc (by simp) _
  refine wpIn_rangeFunc_ownG (F := Fence.wide) rfl (by decide) (gf := 304) (lb := #[.pointer (some ⟨w.heap.size + 1, 0, none⟩)]) rfl trivial (enters_of Tryz.func304 (by kernel_rfl) rfl)
    (each_stops 3 (by omega) (w.heap.size + 1) b h0 h1 _ bN) keepsBox_t (keepsBox_b (by simp)) (Below.refl _ _) (fun _ => rfl)
    (fun pre W => (W.cell? ⟨w.heap.size, 0, none⟩ = some (.bool (evenFold pre)) ∧ W.frozen? ⟨w.heap.size, 0, none⟩ = false) ∧ Below w.heap.size w W)
    (fun _ _ _ => False)
    (OwnFrom.and (Own.from (fun s A B row hs hg hr => ⟨cell_kept hs.1 hg hr, (frozen_kept hs.1 hg hr).trans hs.2⟩) _) (ownFrom_below (Nat.le_refl _) (by simp; omega)))
    (fun _ _ _ _ _ hs _ _ => hs)
    ⟨⟨(bS.alloc _).cell, (bS.alloc _).frozen⟩, hB0⟩
    (fun x => { tmps := #[.int .u8 b, undef, .bool false, .pointer (some ⟨w.heap.size, 0, none⟩), .int .u8 b, .func (.func 304) #[] #[.pointer (some ⟨w.heap.size + 1, 0, none⟩)], .int .i64 (x.val : Int), undef, undef, undef], defers := [] }) ?assign ?body ?done ?stop
  case assign =>
    intro l x W K hK
    gi_wp2
    simpa using hK
  case body =>
    rintro l pre x W ⟨⟨hc, hf⟩, hB⟩ _
    gi_wp2
    exact ⟨(KeepsOthers.setCell _ _ _).from _, keepsBox_set (by omega) W _, ⟨by rw [evenFold_snoc]; exact World.cell?_setCell_same' _ _ _ (by rw [hc]; rfl), by rw [World.frozen?_setCell]; exact hf⟩, hB.setCell (p := ⟨w.heap.size, 0, none⟩) (Nat.le_refl _) _⟩
  case done =>
    rintro D ys W hD rfl ⟨⟨hc, _⟩, hB⟩ hK
    gi_wp2
    refine ⟨by simp, .inl ⟨_, _, rfl, run_takeDeferred hK, ?_⟩⟩
    exact ⟨_, results_tmp rfl _ _ _, by rw [← evenFold_all b h0 h1]; rfl, hB.trans (belowK_b (w := w) (Nat.le_refl _) W D _ _ (by simp at hD; omega) hK rfl rfl)⟩
  case stop =>
    rintro D c pre W _ _ h _
    exact h.elim
theorem even_any (b : Int) (h0 : 0 ≤ b) (h1 : b ≤ 255) (w : World) :
    Calls Tryz.prog 265 #[.int .u8 b] w fun e W' => e = .returned (.bool (evenM b)) ∧ Below w.heap.size w W' := callsIn_wide.1 (even_in b h0 h1 w)
theorem turnFold_snoc (left : Int) (l : List (Fin 8)) (x : Fin 8) : turnFold left (l ++ [x]) = withM (turnFold left l) (((x.val : Int) + left) % 8) true := by simp [turnFold]
theorem turnFold_byte (left : Int) (l : List (Fin 8)) : 0 ≤ turnFold left l ∧ turnFold left l ≤ 255 := by
  unfold turnFold
  have : ∀ (l : List (Fin 8)) (t : Int), 0 ≤ t → t ≤ 255 → 0 ≤ l.foldl (fun t n => withM t (((n.val : Int) + left) % 8) true) t ∧ l.foldl (fun t n => withM t (((n.val : Int) + left) % 8) true) t ≤ 255 := by
    intro l
    induction l with
    | nil => intro t a b; exact ⟨a, b⟩
    | cons x l ih => intro t a b; have := withM_byte t (((x.val : Int) + left) % 8) true a b; exact ih _ this.1 this.2
  exact this l 0 (by decide) (by decide)
theorem and7_i64 (y : Int) : bits BinOp.and IntKind.i64 y 7 = y % 8 := by
  have e : (BitVec.ofInt 64 y &&& BitVec.ofInt 64 7).toNat = (y % 8).toNat := by
    rw [BitVec.toNat_and, show (BitVec.ofInt 64 7).toNat = 2 ^ 3 - 1 by decide, Nat.and_two_pow_sub_one_eq_mod, BitVec.toNat_ofInt]
    omega
  show IntKind.i64.wrap ((BitVec.ofInt 64 y &&& BitVec.ofInt 64 7).toNat : Int) = _
  rw [e, IntKind.wrap_i64]
  omega
theorem turn_in (b y : Int) (h0 : 0 ≤ b) (h1 : b ≤ 255) (w : World) :
    CallsIn Fence.wide 4 Tryz.prog 263 #[.int .u8 b, .int .i64 y] w fun e W' => e = .returned (.int .u8 (turnM b y)) ∧ Below w.heap.size w W' := by
  have hF := turnFold_all b y h0 h1
  have h7 := and7_i64 y
  have t0 : 0 ≤ y % 8 := by omega
  have t1 : y % 8 < 8 := by omega
  generalize y % 8 = t at hF h7 t0 t1
  rw [← hF]
  clear hF
  refine callsIn_of_wp_marks Tryz.func263 rfl trivial ?_ rfl
  simp only [Tryz.ntmps263, List.size_toArray, List.length_cons, List.length_nil, Nat.reduceAdd, Nat.reduceSub, Array.replicate_succ, Array.replicate_zero, List.push_toArray, List.append_toArray, List.nil_append, List.cons_append]
  gi_wp2_with (refine ⟨trivial, ?_⟩; gi_at_call 294; refine (each_in _ _ _).mono ?_; rintro e w' ⟨rfl, rfl⟩)
  clear h7
  have bL := Boxed.new w 3 (.int .i64 t)
  have bT := Boxed.new (w.alloc (.cells #[.int .i64 t] 3)) 5 (.int .u8 0)
  have bN := Boxed.new ((w.alloc (.cells #[.int .i64 t] 3)).alloc (.cells #[.int .u8 0] 5)) 5 (.int .u8 b)
  simp only [World.size_alloc] at bT bN
  have hB0 : Below w.heap.size w (((w.alloc (.cells #[.int .i64 t] 3)).alloc (.cells #[.int .u8 0] 5)).alloc (.cells #[.int .u8 b] 5)) := (((Below.refl _ w).alloc (Nat.le_refl _) _).alloc (by simp) _).alloc (by simp; omega) _
  refine wpIn_rangeFunc_ownG (F := Fence.wide) rfl (by decide) (gf := 304) (lb := #[.pointer (some ⟨w.heap.size + 1 + 1, 0, none⟩)]) rfl trivial (enters_of Tryz.func304 (by kernel_rfl) rfl)
    (each_stops 3 (by omega) (w.heap.size + 1 + 1) b h0 h1 _ bN) keepsBox_t (keepsBox_b (by simp)) (Below.refl _ _) (fun _ => rfl)
    (fun pre W => (W.cell? ⟨w.heap.size + 1, 0, none⟩ = some (.int .u8 (turnFold t pre)) ∧ W.frozen? ⟨w.heap.size + 1, 0, none⟩ = false ∧ Boxed W w.heap.size 3 (.int .i64 t)) ∧ Below w.heap.size w W)
    (fun _ _ _ => False)
    (OwnFrom.and (Own.from (fun s A B row hs hg hr => ⟨cell_kept hs.1 hg hr, (frozen_kept hs.1 hg hr).trans hs.2.1, boxed_own w.heap.size 3 (fun _ => .int .i64 t) s A B row hs.2.2 hg hr⟩) _) (ownFrom_below (Nat.le_refl _) (by simp; omega)))
    (fun _ _ _ _ _ hs _ _ => hs)
    ⟨⟨(bT.alloc _).cell, (bT.alloc _).frozen, (bL.alloc _).alloc _⟩, hB0⟩
    (fun x => { tmps := #[.int .u8 b, .int .i64 y, undef, undef, .int .u8 0, .pointer (some ⟨w.heap.size, 0, none⟩), .pointer (some ⟨w.heap.size + 1, 0, none⟩), .int .i64 (x.val : Int), .int .i64 y, .int .i64 t, .int .u8 b, .func (.func 304) #[] #[.pointer (some ⟨w.heap.size + 1 + 1, 0, none⟩)], .int .i64 (x.val : Int), undef, undef, undef, undef, undef, undef, undef], defers := [] }) ?assign ?body ?done ?stop
  case assign =>
    intro l x W K hK
    gi_wp2
    exact hK
  case body =>
    rintro l pre x W ⟨⟨hc, hf, hL⟩, hB⟩ _
    have hx : (x.val : Int) < 8 := by have := x.isLt; omega
    have hx0 : 0 ≤ (x.val : Int) := by omega
    have hcl := hL.cell
    have hb := turnFold_byte t pre
    gi_wp2_with (refine ⟨trivial, ?_⟩; gi_at_call 108; refine (CallsIn.inRound l (callsIn_wide.2 (with_any _ _ true hb.1 hb.2 _))).mono ?_; rintro e w' ⟨rfl, rfl⟩)
    exact ⟨(KeepsOthers.setCell _ _ _).from _, keepsBox_set (by omega) W _, ⟨by rw [turnFold_snoc]; exact World.cell?_setCell_same' _ _ _ (by rw [hc]; rfl), by rw [World.frozen?_setCell]; exact hf, keepsBox_set (by omega) W _ |>.boxed hL⟩, hB.setCell (p := ⟨w.heap.size + 1, 0, none⟩) (by simp) _⟩
  case done =>
    rintro D ys W hD rfl ⟨⟨hc, _⟩, hB⟩ hK
    gi_wp2
    refine ⟨by simp, .inl ⟨_, _, rfl, run_takeDeferred hK, ?_⟩⟩
    exact ⟨_, results_tmp rfl _ _ _, rfl, hB.trans (belowK_b (w := w) (Nat.le_refl _) W D _ _ (by simp at hD; omega) hK rfl rfl)⟩
  case stop =>
    rintro D c pre W _ _ h _
    exact h.elim
theorem turn_any (b y : Int) (h0 : 0 ≤ b) (h1 : b ≤ 255) (w : World) :
    Calls Tryz.prog 263 #[.int .u8 b, .int .i64 y] w fun e W' => e = .returned (.int .u8 (turnM b y)) ∧ Below w.heap.size w W' := callsIn_wide.1 (turn_in b y h0 h1 w)
end
section
theorem run_index_arr {P : Program} {t e : TypeId} {n : Nat} {cs : Array Value} {k : IntKind} {i : Int} {w : World} {v : Value} (h : P.underlying t = some (.array n e)) (he : P.plainKey e = true) (hs : (sizeOf e).run P w = .ok 1 w) (hi : 0 ≤ i ∧ i < n) (hv : cs[i.toNat]? = some v) :
    (Instr.index t (.agg cs) (.int k i)).run P w = .ok v w := by
  simp [Instr.index, asIntOf, run_underlying h, hi, hs, run_part_plain w he hv]
theorem ix8_0 (a0 a1 a2 a3 a4 a5 a6 a7 : Value) (w : World) : (Instr.index 109 (.agg #[a0, a1, a2, a3, a4, a5, a6, a7]) (.int .i64 0)).run Tryz.prog w = .ok a0 w :=
  run_index_arr Tryz.underlying109 (by kernel_rfl) (by kernel_rfl) (by decide) rfl
theorem ix8_1 (a0 a1 a2 a3 a4 a5 a6 a7 : Value) (w : World) : (Instr.index 109 (.agg #[a0, a1, a2, a3, a4, a5, a6, a7]) (.int .i64 1)).run Tryz.prog w = .ok a1 w :=
  run_index_arr Tryz.underlying109 (by kernel_rfl) (by kernel_rfl) (by decide) rfl
theorem ix8_2 (a0 a1 a2 a3 a4 a5 a6 a7 : Value) (w : World) : (Instr.index 109 (.agg #[a0, a1, a2, a3, a4, a5, a6, a7]) (.int .i64 2)).run Tryz.prog w = .ok a2 w :=
  run_index_arr Tryz.underlying109 (by kernel_rfl) (by kernel_rfl) (by decide) rfl
theorem ix8_3 (a0 a1 a2 a3 a4 a5 a6 a7 : Value) (w : World) : (Instr.index 109 (.agg #[a0, a1, a2, a3, a4, a5, a6, a7]) (.int .i64 3)).run Tryz.prog w = .ok a3 w :=
  run_index_arr Tryz.underlying109 (by kernel_rfl) (by kernel_rfl) (by decide) rfl
theorem ix8_4 (a0 a1 a2 a3 a4 a5 a6 a7 : Value) (w : World) : (Instr.index 109 (.agg #[a0, a1, a2, a3, a4, a5, a6, a7]) (.int .i64 4)).run Tryz.prog w = .ok a4 w :=
  run_index_arr Tryz.underlying109 (by kernel_rfl) (by kernel_rfl) (by decide) rfl
theorem ix8_5 (a0 a1 a2 a3 a4 a5 a6 a7 : Value) (w : World) : (Instr.index 109 (.agg #[a0, a1, a2, a3, a4, a5, a6, a7]) (.int .i64 5)).run Tryz.prog w = .ok a5 w :=
  run_index_arr Tryz.underlying109 (by kernel_rfl) (by kernel_rfl) (by decide) rfl
theorem ix8_6 (a0 a1 a2 a3 a4 a5 a6 a7 : Value) (w : World) : (Instr.index 109 (.agg #[a0, a1, a2, a3, a4, a5, a6, a7]) (.int .i64 6)).run Tryz.prog w = .ok a6 w :=
  run_index_arr Tryz.underlying109 (by kernel_rfl) (by kernel_rfl) (by decide) rfl
theorem ix8_7 (a0 a1 a2 a3 a4 a5 a6 a7 : Value) (w : World) : (Instr.index 109 (.agg #[a0, a1, a2, a3, a4, a5, a6, a7]) (.int .i64 7)).run Tryz.prog w = .ok a7 w :=
  run_index_arr Tryz.underlying109 (by kernel_rfl) (by kernel_rfl) (by decide) rfl
attribute [local go_sem ↓] ix8_0 ix8_1 ix8_2 ix8_3 ix8_4 ix8_5 ix8_6 ix8_7
abbrev v8 (b0 b1 b2 b3 b4 b5 b6 b7 : Bool) : Value := .agg #[.bool b0, .bool b1, .bool b2, .bool b3, .bool b4, .bool b5, .bool b6, .bool b7]
abbrev of8 (f : Int) : Value := v8 (isM f 7) (isM f 6) (isM f 5) (isM f 4) (isM f 3) (isM f 2) (isM f 1) (isM f 0)
theorem rmake_any (b0 b1 b2 b3 b4 b5 b6 b7 : Bool) (w : World) :
    Calls Tryz.prog 161 #[v8 b0 b1 b2 b3 b4 b5 b6 b7] w fun e w' => e = .returned (.int .u8 (mkM b0 b1 b2 b3 b4 b5 b6 b7)) ∧ Below w.heap.size w w' := by
  go_enter Tryz.func161, Tryz.ntmps161
  go_wp2
  refine wp_loop_rounds 9 ?_
  iterate 9 (rw [rounds_succ]; go_wp2_with (first
    | (go_at_call 76; refine (rwith_any _ _ _ (B8.lo (by repeat (first | exact B8.zero | apply B8.with))) (B8.hi (by repeat (first | exact B8.zero | apply B8.with))) _).mono ?_; rintro e w' ⟨rfl, rfl⟩)))
  go_ret
  exact ⟨rfl, (by repeat (first | exact Below.refl _ _ | assumption | refine bstep ?_ (by assumption) | refine Below.drew ?_ | refine Below.alloc ?_ (by first | (simp; done) | (simp; omega) | omega) _ | refine Below.setCell ?_ (by first | (simp; done) | (simp; omega) | omega) _))⟩
theorem rof_any (f : Int) (h0 : 0 ≤ f) (h1 : f ≤ 255) (w : World) :
    Calls Tryz.prog 159 #[.int .u8 f] w fun e w' => e = .returned (of8 f) ∧ Below w.heap.size w w' := by
  go_enter Tryz.func159, Tryz.ntmps159
  go_wp2
  refine wp_loop_rounds 9 ?_
  iterate 9 (rw [rounds_succ]; go_wp2_with (first
    | (go_at_call 157; refine (ris_any _ _ h0 h1 _).mono ?_; rintro e w' ⟨rfl, rfl⟩)))
  refine bodyPost_ret (v := of8 f) (by simp [results, Tryz.f159, go_sem]) rfl ?_
  exact ⟨rfl, (by repeat (first | exact Below.refl _ _ | assumption | refine bstep ?_ (by assumption) | refine Below.drew ?_ | refine Below.alloc ?_ (by first | (simp; done) | (simp; omega) | omega) _ | refine Below.setCell ?_ (by first | (simp; done) | (simp; omega) | omega) _))⟩
end
theorem isM_nat (a n : Nat) (h : n < 8) : isM (a : Int) (n : Int) = a.testBit n := by
  have e : (a : Int) / 2 ^ n % 2 = ((a / 2 ^ n % 2 : Nat) : Int) := by simp
  unfold isM
  rw [Nat.testBit_eq_decide_div_mod_eq, decide_eq_true (show (0 : Int) ≤ (n : Int) by omega), decide_eq_true (show (n : Int) < 8 by omega), Int.toNat_natCast, e]
  simp only [Bool.true_and]
  congr 1
  apply propext
  omega
theorem bytes2 {Q : Int → Int → Prop} (h : ∀ a b : Nat, a < 256 → b < 256 → Q a b) (a b : Int) (h0 : 0 ≤ a) (h1 : a ≤ 255) (h2 : 0 ≤ b) (h3 : b ≤ 255) : Q a b := by
  have := h a.toNat b.toNat (by omega) (by omega)
  rwa [Int.toNat_of_nonneg h0, Int.toNat_of_nonneg h2] at this
theorem isM_and (a b : Int) (n : Nat) (h : n < 8) (h0 : 0 ≤ a) (h1 : a ≤ 255) (h2 : 0 ≤ b) (h3 : b ≤ 255) : isM (bits .and .u8 a b) n = (isM a n && isM b n) :=
  bytes2 (Q := fun a b => isM (bits .and .u8 a b) n = (isM a n && isM b n)) (fun a b ha hb => by rw [u8_and_nat a b ha hb, isM_nat _ _ h, isM_nat _ _ h, isM_nat _ _ h, Nat.testBit_and]) a b h0 h1 h2 h3
theorem isM_or (a b : Int) (n : Nat) (h : n < 8) (h0 : 0 ≤ a) (h1 : a ≤ 255) (h2 : 0 ≤ b) (h3 : b ≤ 255) : isM (bits .or .u8 a b) n = (isM a n || isM b n) :=
  bytes2 (Q := fun a b => isM (bits .or .u8 a b) n = (isM a n || isM b n)) (fun a b ha hb => by rw [u8_or_nat a b ha hb, isM_nat _ _ h, isM_nat _ _ h, isM_nat _ _ h, Nat.testBit_or]) a b h0 h1 h2 h3
theorem isM_xor (a b : Int) (n : Nat) (h : n < 8) (h0 : 0 ≤ a) (h1 : a ≤ 255) (h2 : 0 ≤ b) (h3 : b ≤ 255) : isM (bits .xor .u8 a b) n = (isM a n ^^ isM b n) :=
  bytes2 (Q := fun a b => isM (bits .xor .u8 a b) n = (isM a n ^^ isM b n)) (fun a b ha hb => by rw [u8_xor_nat a b ha hb, isM_nat _ _ h, isM_nat _ _ h, isM_nat _ _ h, Nat.testBit_xor]) a b h0 h1 h2 h3
theorem not8_bit (b n : Nat) (hb : b < 256) (h : n < 8) : (255 - b).testBit n = !b.testBit n := by
  have := Nat.testBit_two_pow_sub_succ (x := b) (n := 8) (by omega) n
  rw [show 2 ^ 8 - (b + 1) = 255 - b by omega] at this
  simpa [h] using this
theorem isM_andNot (a b : Int) (n : Nat) (h : n < 8) (h0 : 0 ≤ a) (h1 : a ≤ 255) (h2 : 0 ≤ b) (h3 : b ≤ 255) : isM (bits .andNot .u8 a b) n = (isM a n && !isM b n) :=
  bytes2 (Q := fun a b => isM (bits .andNot .u8 a b) n = (isM a n && !isM b n)) (fun a b ha hb => by rw [u8_andNot_nat a b ha hb, isM_nat _ _ h, isM_nat _ _ h, isM_nat _ _ h, Nat.testBit_and, not8_bit b n hb h]) a b h0 h1 h2 h3
theorem and_byte (a b : Int) (h0 : 0 ≤ a) (h1 : a ≤ 255) (h2 : 0 ≤ b) (h3 : b ≤ 255) : 0 ≤ bits .and .u8 a b ∧ bits .and .u8 a b ≤ 255 :=
  bytes2 (Q := fun a b => 0 ≤ bits .and .u8 a b ∧ bits .and .u8 a b ≤ 255) (fun a b ha hb => by rw [u8_and_nat a b ha hb]; have := Nat.and_lt_two_pow (n := 8) a (show b < 2 ^ 8 by omega); omega) a b h0 h1 h2 h3
theorem or_byte (a b : Int) (h0 : 0 ≤ a) (h1 : a ≤ 255) (h2 : 0 ≤ b) (h3 : b ≤ 255) : 0 ≤ bits .or .u8 a b ∧ bits .or .u8 a b ≤ 255 :=
  bytes2 (Q := fun a b => 0 ≤ bits .or .u8 a b ∧ bits .or .u8 a b ≤ 255) (fun a b ha hb => by rw [u8_or_nat a b ha hb]; have := Nat.or_lt_two_pow (n := 8) (show a < 2 ^ 8 by omega) (show b < 2 ^ 8 by omega); omega) a b h0 h1 h2 h3
theorem xor_byte (a b : Int) (h0 : 0 ≤ a) (h1 : a ≤ 255) (h2 : 0 ≤ b) (h3 : b ≤ 255) : 0 ≤ bits .xor .u8 a b ∧ bits .xor .u8 a b ≤ 255 :=
  bytes2 (Q := fun a b => 0 ≤ bits .xor .u8 a b ∧ bits .xor .u8 a b ≤ 255) (fun a b ha hb => by rw [u8_xor_nat a b ha hb]; have := Nat.xor_lt_two_pow (n := 8) (show a < 2 ^ 8 by omega) (show b < 2 ^ 8 by omega); omega) a b h0 h1 h2 h3
theorem andNot_byte (a b : Int) (h0 : 0 ≤ a) (h1 : a ≤ 255) (h2 : 0 ≤ b) (h3 : b ≤ 255) : 0 ≤ bits .andNot .u8 a b ∧ bits .andNot .u8 a b ≤ 255 :=
  bytes2 (Q := fun a b => 0 ≤ bits .andNot .u8 a b ∧ bits .andNot .u8 a b ≤ 255) (fun a b ha hb => by rw [u8_andNot_nat a b ha hb]; have := Nat.and_lt_two_pow (n := 8) a (show 255 - b < 2 ^ 8 by omega); omega) a b h0 h1 h2 h3
theorem byte_ext (a b : Int) (h0 : 0 ≤ a) (h1 : a ≤ 255) (h2 : 0 ≤ b) (h3 : b ≤ 255) (h : ∀ n : Nat, n < 8 → isM a n = isM b n) : a = b := by
  have key : a.toNat = b.toNat := by
    apply Nat.eq_of_testBit_eq
    intro i
    by_cases hi : i < 8
    · have := h i hi
      rw [show a = ((a.toNat : Nat) : Int) from (Int.toNat_of_nonneg h0).symm, show b = ((b.toNat : Nat) : Int) from (Int.toNat_of_nonneg h2).symm, isM_nat _ _ hi, isM_nat _ _ hi] at this
      exact this
    · have p : 2 ^ 8 ≤ 2 ^ i := Nat.pow_le_pow_right (by omega) (by omega)
      rw [Nat.testBit_lt_two_pow (show a.toNat < 2 ^ i by omega), Nat.testBit_lt_two_pow (show b.toNat < 2 ^ i by omega)]
  omega
def Masks (w : World) : Prop := w.cell? ⟨2, 0, none⟩ = some (.int .u8 64) ∧ w.cell? ⟨2, 1, none⟩ = some (.int .u8 1) ∧ w.cell? ⟨2, 2, none⟩ = some (.int .u8 4) ∧ w.cell? ⟨2, 3, none⟩ = some (.int .u8 128)
theorem Masks.below {w w' : World} (h : Masks w) (k : Below w.heap.size w w') : Masks w' :=
  ⟨(k.cell (World.block_lt_of_cell? _ _ h.1)).trans h.1, (k.cell (World.block_lt_of_cell? _ _ h.2.1)).trans h.2.1, (k.cell (World.block_lt_of_cell? _ _ h.2.2.1)).trans h.2.2.1, (k.cell (World.block_lt_of_cell? _ _ h.2.2.2)).trans h.2.2.2⟩
theorem mask_fin : ∀ x : Fin 256, (bits .and .u8 (x.val : Int) 64 != 0) = isM (x.val : Int) 6 ∧ (bits .and .u8 (x.val : Int) 1 != 0) = isM (x.val : Int) 0 ∧ (bits .and .u8 (x.val : Int) 4 != 0) = isM (x.val : Int) 2 ∧ (bits .and .u8 (x.val : Int) 128 != 0) = isM (x.val : Int) 7 := by decide +kernel
theorem mask_all (f : Int) (h0 : 0 ≤ f) (h1 : f ≤ 255) : (bits .and .u8 f 64 != 0) = isM f 6 ∧ (bits .and .u8 f 1 != 0) = isM f 0 ∧ (bits .and .u8 f 4 != 0) = isM f 2 ∧ (bits .and .u8 f 128 != 0) = isM f 7 :=
  byte_all (P := fun f => (bits .and .u8 f 64 != 0) = isM f 6 ∧ (bits .and .u8 f 1 != 0) = isM f 0 ∧ (bits .and .u8 f 4 != 0) = isM f 2 ∧ (bits .and .u8 f 128 != 0) = isM f 7) mask_fin f h0 h1
theorem testM_out (f c : Int) (h : c < 0 ∨ 8 ≤ c) : testM f c = false := by
  unfold testM
  repeat (rw [if_neg (by omega)])
theorem test_any (f c : Int) (h0 : 0 ≤ f) (h1 : f ≤ 255) (w : World) (hm : Masks w) :
    Calls Tryz.prog 240 #[.int .u8 f, .int .i64 c] w fun e w' => e = .returned (.bool (testM f c)) ∧ w = w' := by
  obtain ⟨m0, m1, m2, m3⟩ := hm
  obtain ⟨k0, k1, k2, k3⟩ := mask_all f h0 h1
  by_cases hc : c < 0 ∨ 8 ≤ c
  · rw [testM_out f c hc]
    rcases hc with hc | hc
    · go_enter Tryz.func240, Tryz.ntmps240
      go_wp2
      go_ret
      exact ⟨rfl, rfl⟩
    · go_enter Tryz.func240, Tryz.ntmps240
      go_wp2
      go_ret
      exact ⟨rfl, rfl⟩
  · obtain rfl | rfl | rfl | rfl | rfl | rfl | rfl | rfl : c = 0 ∨ c = 1 ∨ c = 2 ∨ c = 3 ∨ c = 4 ∨ c = 5 ∨ c = 6 ∨ c = 7 := by omega
    all_goals
      clear hc
      go_enter Tryz.func240, Tryz.ntmps240
      go_wp2
      go_ret
      refine ⟨ret_bool ?_, rfl⟩
      simp only [testM]
      simp [k0, k1, k2, k3]
theorem rtest_any (f c : Int) (h0 : 0 ≤ f) (h1 : f ≤ 255) (w : World) :
    Calls Tryz.prog 187 #[.int .u8 f, .int .i64 c] w fun e w' => e = .returned (.bool (testM f c)) ∧ Below w.heap.size w w' := by
  by_cases hc : c < 0 ∨ 8 ≤ c
  · rw [testM_out f c hc]
    have n0 : (c == 0) = false := by simp; omega
    have n1 : (c == 1) = false := by simp; omega
    have n2 : (c == 2) = false := by simp; omega
    have n3 : (c == 3) = false := by simp; omega
    have n4 : (c == 4) = false := by simp; omega
    have n5 : (c == 5) = false := by simp; omega
    have n6 : (c == 6) = false := by simp; omega
    have n7 : (c == 7) = false := by simp; omega
    clear hc
    go_enter Tryz.func187, Tryz.ntmps187
    go_wp2_with (go_at_call 159; refine (rof_any _ h0 h1 _).mono ?_; rintro e w' ⟨rfl, hb⟩; have hsz := hb.size)
    go_ret
    exact ⟨rfl, (by repeat (first | exact Below.refl _ _ | assumption | refine bstep ?_ (by assumption) | refine Below.drew ?_ | refine Below.alloc ?_ (by first | (simp; done) | (simp; omega) | omega) _ | refine Below.setCell ?_ (by first | (simp; done) | (simp; omega) | omega) _))⟩
  · obtain rfl | rfl | rfl | rfl | rfl | rfl | rfl | rfl : c = 0 ∨ c = 1 ∨ c = 2 ∨ c = 3 ∨ c = 4 ∨ c = 5 ∨ c = 6 ∨ c = 7 := by omega
    all_goals
      clear hc
      go_enter Tryz.func187, Tryz.ntmps187
      go_wp2_with (go_at_call 159; refine (rof_any _ h0 h1 _).mono ?_; rintro e w' ⟨rfl, hb⟩; have hsz := hb.size)
      go_ret
      exact ⟨rfl, (by repeat (first | exact Below.refl _ _ | assumption | refine bstep ?_ (by assumption) | refine Below.drew ?_ | refine Below.alloc ?_ (by first | (simp; done) | (simp; omega) | omega) _ | refine Below.setCell ?_ (by first | (simp; done) | (simp; omega) | omega) _))⟩
theorem result_fin : ∀ x : Fin 256, x.val ≠ 0 → bits .and .u8 (x.val : Int) 168 = resultM (x.val : Int) := by decide +kernel
theorem result_all (r : Int) (h0 : 0 ≤ r) (h1 : r ≤ 255) (h : r ≠ 0) : bits .and .u8 r 168 = resultM r := by
  have := result_fin ⟨r.toNat, by omega⟩ (by simp; omega)
  simpa [Int.toNat_of_nonneg h0] using this
theorem result_any (r : Int) (h0 : 0 ≤ r) (h1 : r ≤ 255) (w : World) :
    Calls Tryz.prog 264 #[.int .u8 r] w fun e w' => e = .returned (.int .u8 (resultM r)) ∧ w = w' := by
  by_cases h : r = 0
  · subst h
    go_enter Tryz.func264, Tryz.ntmps264
    go_wp2
    go_ret
    exact ⟨ret_int (by decide +kernel), rfl⟩
  · have H := Lib.hid (result_all r h0 h1 h)
    have n0 : (r == 0) = false := by simp; omega
    clear h
    go_enter Tryz.func264, Tryz.ntmps264
    go_wp2
    go_ret
    exact ⟨ret_int H.out, rfl⟩
theorem rresult_any (r : Int) (h0 : 0 ≤ r) (h1 : r ≤ 255) (w : World) :
    Calls Tryz.prog 173 #[.int .u8 r] w fun e w' => e = .returned (.int .u8 (resultM r)) ∧ Below w.heap.size w w' := by
  go_enter Tryz.func173, Tryz.ntmps173
  go_wp2_with (first | (go_at_call 159; refine (rof_any _ h0 h1 _).mono ?_; rintro e w' ⟨rfl, hb⟩; have hsz := hb.size) | (go_at_call 161; refine (rmake_any _ _ _ _ _ _ _ _ _).mono ?_; rintro e w' ⟨rfl, hb⟩; have hsz := hb.size))
  go_ret
  exact ⟨rfl, (by repeat (first | exact Below.refl _ _ | assumption | refine bstep ?_ (by assumption) | refine Below.drew ?_ | refine Below.alloc ?_ (by first | (simp; done) | (simp; omega) | omega) _ | refine Below.setCell ?_ (by first | (simp; done) | (simp; omega) | omega) _))⟩
theorem even_fin : ∀ x : Fin 256, evenFM (x.val : Int) = if evenM (x.val : Int) then bits .or .u8 (resultM (x.val : Int)) 4 else resultM (x.val : Int) := by decide +kernel
theorem even_all (r : Int) (h0 : 0 ≤ r) (h1 : r ≤ 255) : evenFM r = if evenM r then bits .or .u8 (resultM r) 4 else resultM r :=
  byte_all (P := fun r => evenFM r = if evenM r then bits .or .u8 (resultM r) 4 else resultM r) even_fin r h0 h1
theorem evenF_any (r : Int) (h0 : 0 ≤ r) (h1 : r ≤ 255) (w : World) :
    Calls Tryz.prog 194 #[.int .u8 r] w fun e w' => e = .returned (.int .u8 (evenFM r)) ∧ Below w.heap.size w w' := by
  have H := Lib.hid (even_all r h0 h1)
  cases he : evenM r
  all_goals
    go_enter Tryz.func194, Tryz.ntmps194
    go_wp2_with (first | (go_at_call 264; refine (result_any _ h0 h1 _).mono ?_; rintro e w' ⟨rfl, rfl⟩) | (go_at_call 265; refine (even_any _ h0 h1 _).mono ?_; rintro e w' ⟨rfl, hb⟩; have hsz := hb.size))
    go_ret
    exact ⟨ret_int (by rw [H.out, he]; simp), (by repeat (first | exact Below.refl _ _ | assumption | refine bstep ?_ (by assumption) | refine Below.drew ?_ | refine Below.alloc ?_ (by first | (simp; done) | (simp; omega) | omega) _ | refine Below.setCell ?_ (by first | (simp; done) | (simp; omega) | omega) _))⟩
theorem revenF_any (r : Int) (h0 : 0 ≤ r) (h1 : r ≤ 255) (w : World) :
    Calls Tryz.prog 77 #[.int .u8 r] w fun e w' => e = .returned (.int .u8 (evenFM r)) ∧ Below w.heap.size w w' := by
  go_enter Tryz.func77, Tryz.ntmps77
  go_wp2_with (first | (go_at_call 159; refine (rof_any _ h0 h1 _).mono ?_; rintro e w' ⟨rfl, hb⟩; have hsz := hb.size) | (go_at_call 160; refine (reven_any _ h0 h1 _).mono ?_; rintro e w' ⟨rfl, rfl⟩) | (go_at_call 161; refine (rmake_any _ _ _ _ _ _ _ _ _).mono ?_; rintro e w' ⟨rfl, hb⟩; have hsz := hb.size))
  go_ret
  exact ⟨rfl, (by repeat (first | exact Below.refl _ _ | assumption | refine bstep ?_ (by assumption) | refine Below.drew ?_ | refine Below.alloc ?_ (by first | (simp; done) | (simp; omega) | omega) _ | refine Below.setCell ?_ (by first | (simp; done) | (simp; omega) | omega) _))⟩
def ArrIs (w : World) (A n : Nat) (v : Nat → Value) : Prop := ∀ j, j < n → w.cell? ⟨A, j, none⟩ = some (v j) ∧ w.frozen? ⟨A, j, none⟩ = false
theorem ArrIs.lt {w : World} {A n : Nat} {v : Nat → Value} (h : ArrIs w A n v) (hn : 0 < n) : A < w.heap.size := World.block_lt_of_cell? _ _ (h 0 hn).1
theorem ArrIs.below {w w' : World} {A n B : Nat} {v : Nat → Value} (h : ArrIs w A n v) (k : Below B w w') (hB : A < B) : ArrIs w' A n v :=
  fun j hj => ⟨(k.cell (p := ⟨A, j, none⟩) hB).trans (h j hj).1, (k.frozen (p := ⟨A, j, none⟩) hB).trans (h j hj).2⟩
theorem ArrIs.kept {w w' : World} {A n : Nat} {v : Nat → Value} (h : ArrIs w A n v) (k : Below w.heap.size w w') : ArrIs w' A n v :=
  fun j hj => h.below k (World.block_lt_of_cell? _ _ (h j hj).1) j hj
theorem ArrIs.alloc {w : World} {A n : Nat} {v : Nat → Value} (h : ArrIs w A n v) (o : Obj) : ArrIs (w.alloc o) A n v :=
  h.kept ((Below.refl _ w).alloc (Nat.le_refl _) o)
theorem ArrIs.set {w : World} {A n k : Nat} {v : Nat → Value} (h : ArrIs w A n v) (u : Value) (hk : k < n) : ArrIs (w.setCell ⟨A, k, none⟩ u) A n (fun j => if j = k then u else v j) := by
  intro j hj
  by_cases e : j = k
  · subst e
    simp only [if_true, World.frozen?_setCell]
    exact ⟨World.cell?_setCell_same _ _ _ (h j hj).1, (h j hj).2⟩
  · simp only [if_neg e, World.frozen?_setCell]
    refine ⟨(World.cell?_setCell_other _ _ _ _ ?_).trans (h j hj).1, (h j hj).2⟩
    intro c
    injection c with _ c2
    exact e c2.symm
theorem ArrIs.congr {w : World} {A n : Nat} {v u : Nat → Value} (h : ArrIs w A n v) (e : ∀ j, j < n → v j = u j) : ArrIs w A n u :=
  fun j hj => ⟨by rw [← e j hj]; exact (h j hj).1, (h j hj).2⟩
theorem ArrIs.new (w : World) (cs : Array Value) (t : TypeId) (lo hi : Nat) (v : Nat → Value) (n : Nat) (hn : n ≤ lo ∨ hi = 0) (hv : ∀ j, j < n → cs[j]? = some (v j)) : ArrIs (w.alloc (.cells cs t (lo, hi))) w.heap.size n v := by
  intro j hj
  have e : (w.alloc (.cells cs t (lo, hi))).heap[w.heap.size]? = some (.cells cs t (lo, hi)) := by
    show (w.heap.push _)[w.heap.size]? = _
    simp
  constructor
  · simp only [World.cell?, e]
    simpa using hv j hj
  · simp only [World.frozen?, e]
    rcases hn with h | h
    · rw [decide_eq_false (by omega)]; rfl
    · rw [h]; simp
theorem nat8 (P : Nat → Prop) (h : P 0 ∧ P 1 ∧ P 2 ∧ P 3 ∧ P 4 ∧ P 5 ∧ P 6 ∧ P 7) (n : Nat) (hn : n < 8) : P n := by
  obtain ⟨h0, h1, h2, h3, h4, h5, h6, h7⟩ := h
  match n, hn with
  | 0, _ => exact h0
  | 1, _ => exact h1
  | 2, _ => exact h2
  | 3, _ => exact h3
  | 4, _ => exact h4
  | 5, _ => exact h5
  | 6, _ => exact h6
  | 7, _ => exact h7
theorem isM_mkM (b0 b1 b2 b3 b4 b5 b6 b7 : Bool) (n : Nat) (hn : n < 8) : isM (mkM b0 b1 b2 b3 b4 b5 b6 b7) (n : Int) = [b7, b6, b5, b4, b3, b2, b1, b0].getD n false := by
  obtain ⟨h0, h1, h2, h3, h4, h5, h6, h7⟩ := of_mkM b0 b1 b2 b3 b4 b5 b6 b7
  exact nat8 (fun n => isM (mkM b0 b1 b2 b3 b4 b5 b6 b7) (n : Int) = [b7, b6, b5, b4, b3, b2, b1, b0].getD n false) ⟨h7, h6, h5, h4, h3, h2, h1, h0⟩ n hn
theorem keep_all (f o m : Int) (h0 : 0 ≤ f) (h1 : f ≤ 255) (h2 : 0 ≤ o) (h3 : o ≤ 255) (h4 : 0 ≤ m) (h5 : m ≤ 255) :
    bits .or .u8 (bits .andNot .u8 f m) (bits .and .u8 o m) = keepM f o m := by
  have a := andNot_byte f m h0 h1 h4 h5
  have b := and_byte o m h2 h3 h4 h5
  have c := or_byte _ _ a.1 a.2 b.1 b.2
  have d := keepM_byte f o m
  refine byte_ext _ _ c.1 c.2 d.1 d.2 fun n hn => ?_
  rw [isM_or _ _ n hn a.1 a.2 b.1 b.2, isM_andNot _ _ n hn h0 h1 h4 h5, isM_and _ _ n hn h2 h3 h4 h5]
  unfold keepM
  rw [isM_mkM _ _ _ _ _ _ _ _ n hn]
  refine nat8 (fun n => ((isM f n && !isM m n) || (isM o n && isM m n)) = [_, _, _, _, _, _, _, _].getD n false) ?_ n hn
  simp only [List.getD_cons_zero, List.getD_cons_succ, sel]
  refine ⟨?_, ?_, ?_, ?_, ?_, ?_, ?_, ?_⟩
  · cases isM m 0 <;> simp
  · cases isM m 1 <;> simp
  · cases isM m 2 <;> simp
  · cases isM m 3 <;> simp
  · cases isM m 4 <;> simp
  · cases isM m 5 <;> simp
  · cases isM m 6 <;> simp
  · cases isM m 7 <;> simp
theorem keep_any (f o m : Int) (h0 : 0 ≤ f) (h1 : f ≤ 255) (h2 : 0 ≤ o) (h3 : o ≤ 255) (h4 : 0 ≤ m) (h5 : m ≤ 255) (w : World) :
    Calls Tryz.prog 198 #[.int .u8 f, .int .u8 o, .int .u8 m] w fun e w' => e = .returned (.int .u8 (keepM f o m)) ∧ w = w' := by
  have H := Lib.hid (keep_all f o m h0 h1 h2 h3 h4 h5)
  go_enter Tryz.func198, Tryz.ntmps198
  go_wp2
  go_ret
  exact ⟨ret_int H.out, rfl⟩
def fl (f : Int) (j : Nat) : Bool := isM f (7 - (j : Int))
def kept (f o m : Int) (k j : Nat) : Bool := if j < k then sel (fl m j) (fl f j) (fl o j) else fl f j
def one (c : Bool) : Int := if c then 1 else 0
theorem one_bounds (c : Bool) : 0 ≤ one c ∧ one c ≤ 1 := by cases c <;> decide
def farM (n : Int) : Bool := decide (n < -128) || decide (127 < n)
def addR (a b : Int) (c : Bool) : Int := (a + b + one c) % 256
def addF (a b : Int) (c : Bool) : Int :=
  mkM (isM (addR a b c) 7) (addR a b c == 0) (isM (addR a b c) 5) (decide (15 < a % 16 + b % 16 + one c)) (isM (addR a b c) 3) (farM (signedM a + signedM b + one c)) false (decide (255 < a + b + one c))
def subR (a b : Int) (c : Bool) : Int := (a - b - one c) % 256
def subF (a b : Int) (c : Bool) : Int :=
  mkM (isM (subR a b c) 7) (subR a b c == 0) (isM (subR a b c) 5) (decide (a % 16 - b % 16 - one c < 0)) (isM (subR a b c) 3) (farM (signedM a - signedM b - one c)) true (decide (a - b - one c < 0))
def cmpF (a b : Int) : Int :=
  mkM (isM (subR a b false) 7) (subR a b false == 0) (isM b 5) (decide (a % 16 - b % 16 - one false < 0)) (isM b 3) (farM (signedM a - signedM b - one false)) true (decide (a - b - one false < 0))
def incF (a f : Int) : Int :=
  mkM (isM (addR a 1 false) 7) (addR a 1 false == 0) (isM (addR a 1 false) 5) (decide (15 < a % 16 + 1 % 16 + one false)) (isM (addR a 1 false) 3) (farM (signedM a + signedM 1 + one false)) false (isM f 0)
def decF (a f : Int) : Int :=
  mkM (isM (subR a 1 false) 7) (subR a 1 false == 0) (isM (subR a 1 false) 5) (decide (a % 16 - 1 % 16 - one false < 0)) (isM (subR a 1 false) 3) (farM (signedM a - signedM 1 - one false)) true (isM f 0)
theorem addR_byte (a b : Int) (c : Bool) : B8 (addR a b c) := by unfold addR B8; omega
theorem subR_byte (a b : Int) (c : Bool) : B8 (subR a b c) := by unfold subR B8; omega
theorem addF_byte (a b : Int) (c : Bool) : B8 (addF a b c) := mkM_byte ..
theorem subF_byte (a b : Int) (c : Bool) : B8 (subF a b c) := mkM_byte ..
theorem cmpF_byte (a b : Int) : B8 (cmpF a b) := mkM_byte ..
theorem incF_byte (a b : Int) : B8 (incF a b) := mkM_byte ..
theorem decF_byte (a b : Int) : B8 (decF a b) := mkM_byte ..
def cK (a b : Int) (c : Bool) (k : Nat) : Bool := decide (2 ^ k ≤ a % 2 ^ k + b % 2 ^ k + one c)
theorem cK_zero (a b : Int) (c : Bool) : cK a b c 0 = c := by
  unfold cK one
  cases c <;> simp <;> omega
theorem cK_step (a b : Int) (c : Bool) (k : Nat) (hk : k < 8) : cK a b c (k + 1) = if cK a b c k then (isM a k || isM b k) else (isM a k && isM b k) := by
  have key := one_bounds c
  refine nat8 (fun k => cK a b c (k + 1) = if cK a b c k then (isM a k || isM b k) else (isM a k && isM b k)) ?_ k hk
  unfold cK isM
  generalize one c = o at key ⊢
  refine ⟨?_, ?_, ?_, ?_, ?_, ?_, ?_, ?_⟩
  all_goals
    rw [Bool.eq_iff_iff]
    simp
    split <;> omega
def outM (a b : Int) (c : Bool) : Nat → Int
  | 0 => 0
  | k + 1 => if cK a b c (k + 1) then withM (outM a b c k) k true else outM a b c k
theorem outM_byte (a b : Int) (c : Bool) : ∀ k, B8 (outM a b c k)
  | 0 => B8.zero
  | k + 1 => by
    unfold outM
    split
    · exact (outM_byte a b c k).with _ _
    · exact outM_byte a b c k
theorem out8_bits : ∀ c1 c2 c3 c4 c5 c6 c7 c8 : Bool,
    let w := fun (x : Int) (k : Int) (c : Bool) => if c then withM x k true else x
    let o := w (w (w (w (w (w (w (w 0 0 c1) 1 c2) 2 c3) 3 c4) 4 c5) 5 c6) 6 c7) 7 c8
    isM o 3 = c4 ∧ isM o 6 = c7 ∧ isM o 7 = c8 := by decide +kernel
theorem out_bits (a b : Int) (c : Bool) : isM (outM a b c 8) 3 = cK a b c 4 ∧ isM (outM a b c 8) 6 = cK a b c 7 ∧ isM (outM a b c 8) 7 = cK a b c 8 :=
  out8_bits (cK a b c 1) (cK a b c 2) (cK a b c 3) (cK a b c 4) (cK a b c 5) (cK a b c 6) (cK a b c 7) (cK a b c 8)
theorem cK_nums (a b : Int) (c : Bool) (ha : B8 a) (hb : B8 b) : cK a b c 4 = decide (15 < a % 16 + b % 16 + one c) ∧ cK a b c 8 = decide (255 < a + b + one c) ∧ (cK a b c 7 != cK a b c 8) = farM (signedM a + signedM b + one c) := by
  obtain ⟨a0, a1⟩ := ha
  obtain ⟨b0, b1⟩ := hb
  have key := one_bounds c
  unfold cK farM signedM
  generalize one c = o at key ⊢
  refine ⟨?_, ?_, ?_⟩
  · rw [Bool.eq_iff_iff]; simp; omega
  · rw [Bool.eq_iff_iff]; simp; omega
  · rw [Bool.eq_iff_iff]
    simp
    split <;> split <;> omega
def W16 (x : Int) : Prop := 0 ≤ x ∧ x ≤ 65535
theorem W16.lo {x : Int} (h : W16 x) : 0 ≤ x := h.1
theorem W16.hi {x : Int} (h : W16 x) : x ≤ 65535 := h.2
theorem W16.low {x : Int} (h : W16 x) : B8 (x % 256) := by unfold B8; omega
theorem W16.high {x : Int} (h : W16 x) : B8 (x / 256) := by obtain ⟨h0, h1⟩ := h; unfold B8; omega
def signedW (w : Int) : Int := if w < 32768 then w else w - 65536
def farW (n : Int) : Bool := decide (n < -32768) || decide (32767 < n)
def adcW (a b : Int) (c : Bool) : Int := (a + b + one c) % 65536
def sbcW (a b : Int) (c : Bool) : Int := (a - b - one c) % 65536
def wideF (r : Int) (half over minus out : Bool) : Int :=
  mkM (isM (r / 256) 7) (r == 0) (isM (r / 256) 5) half (isM (r / 256) 3) over minus out
def adcF (a b : Int) (c : Bool) : Int :=
  wideF (adcW a b c) (decide (4095 < a % 4096 + b % 4096 + one c)) (farW (signedW a + signedW b + one c)) false (decide (65535 < a + b + one c))
def sbcF (a b : Int) (c : Bool) : Int :=
  wideF (sbcW a b c) (decide (a % 4096 - b % 4096 - one c < 0)) (farW (signedW a - signedW b - one c)) true (decide (a - b - one c < 0))
def addWF (a b f : Int) : Int :=
  mkM (isM f 7) (isM f 6) (isM (adcW a b false / 256) 5) (decide (4095 < a % 4096 + b % 4096)) (isM (adcW a b false / 256) 3) (isM f 2) false (decide (65535 < a + b))
def moveM (w y : Int) : Int := (w + y) % 65536
theorem adcW_word (a b : Int) (c : Bool) : W16 (adcW a b c) := by unfold adcW W16; omega
theorem sbcW_word (a b : Int) (c : Bool) : W16 (sbcW a b c) := by unfold sbcW W16; omega
theorem adcF_byte (a b : Int) (c : Bool) : B8 (adcF a b c) := mkM_byte ..
theorem sbcF_byte (a b : Int) (c : Bool) : B8 (sbcF a b c) := mkM_byte ..
theorem addWF_byte (a b f : Int) : B8 (addWF a b f) := mkM_byte ..
def midA (a b : Int) (c : Bool) : Bool := isM (addF (a % 256) (b % 256) c) 0
def midS (a b : Int) (c : Bool) : Bool := isM (subF (a % 256) (b % 256) c) 0
theorem addF_bit0' (a b : Int) (c : Bool) : isM (addF a b c) 0 = decide (255 < a + b + one c) := (of_mkM _ _ _ _ _ _ _ _).2.2.2.2.2.2.2
theorem subF_bit0' (a b : Int) (c : Bool) : isM (subF a b c) 0 = decide (a - b - one c < 0) := (of_mkM _ _ _ _ _ _ _ _).2.2.2.2.2.2.2
theorem one_dec (p : Prop) [Decidable p] : one (decide p) = if p then 1 else 0 := by unfold one; by_cases h : p <;> simp [h]
theorem keepZ (x0 x1 x2 x3 x4 x5 x6 x7 : Bool) (f : Int) : keepM (mkM x0 x1 x2 x3 x4 x5 x6 x7) f 64 = mkM x0 (isM f 6) x2 x3 x4 x5 x6 x7 := by
  unfold keepM
  obtain ⟨h0, h1, h2, h3, h4, h5, h6, h7⟩ := of_mkM x0 x1 x2 x3 x4 x5 x6 x7
  obtain ⟨z0, z1, z2, z3, z4, z5, z6, z7⟩ : isM 64 0 = false ∧ isM 64 1 = false ∧ isM 64 2 = false ∧ isM 64 3 = false ∧ isM 64 4 = false ∧ isM 64 5 = false ∧ isM 64 6 = true ∧ isM 64 7 = false := by decide +kernel
  rw [h0, h1, h2, h3, h4, h5, h6, h7, z0, z1, z2, z3, z4, z5, z6, z7]
  rfl
theorem keepSZP (x0 x1 x2 x3 x4 x5 x6 x7 : Bool) (f : Int) : keepM (mkM x0 x1 x2 x3 x4 x5 x6 x7) f 196 = mkM (isM f 7) (isM f 6) x2 x3 x4 (isM f 2) x6 x7 := by
  unfold keepM
  obtain ⟨h0, h1, h2, h3, h4, h5, h6, h7⟩ := of_mkM x0 x1 x2 x3 x4 x5 x6 x7
  obtain ⟨z0, z1, z2, z3, z4, z5, z6, z7⟩ : isM 196 0 = false ∧ isM 196 1 = false ∧ isM 196 2 = true ∧ isM 196 3 = false ∧ isM 196 4 = false ∧ isM 196 5 = false ∧ isM 196 6 = true ∧ isM 196 7 = true := by decide +kernel
  rw [h0, h1, h2, h3, h4, h5, h6, h7, z0, z1, z2, z3, z4, z5, z6, z7]
  rfl
theorem adc_word (a b : Int) (c : Bool) (ha : W16 a) (hb : W16 b) : 256 * addR (a / 256) (b / 256) (midA a b c) + addR (a % 256) (b % 256) c = adcW a b c := by
  obtain ⟨a0, a1⟩ := ha
  obtain ⟨b0, b1⟩ := hb
  have key := one_bounds c
  unfold midA
  rw [addF_bit0']
  unfold addR adcW
  rw [one_dec]
  split <;> omega
theorem sbc_word (a b : Int) (c : Bool) (ha : W16 a) (hb : W16 b) : 256 * subR (a / 256) (b / 256) (midS a b c) + subR (a % 256) (b % 256) c = sbcW a b c := by
  obtain ⟨a0, a1⟩ := ha
  obtain ⟨b0, b1⟩ := hb
  have key := one_bounds c
  unfold midS
  rw [subF_bit0']
  unfold subR sbcW
  rw [one_dec]
  split <;> omega
theorem zboth (x y : Int) (hx : B8 x) (hy : B8 y) : (x == 0 && y == 0) = (256 * x + y == 0) := by
  obtain ⟨x0, x1⟩ := hx
  obtain ⟨y0, y1⟩ := hy
  rw [Bool.eq_iff_iff]; simp; omega
theorem adc_flags (a b : Int) (c : Bool) (ha : W16 a) (hb : W16 b) :
    keepM (addF (a / 256) (b / 256) (midA a b c)) (bits .and .u8 (addF (a / 256) (b / 256) (midA a b c)) (addF (a % 256) (b % 256) c)) 64 = adcF a b c := by
  have hw := adc_word a b c ha hb
  have r1 := addR_byte (a / 256) (b / 256) (midA a b c)
  have r2 := addR_byte (a % 256) (b % 256) c
  have z : isM (bits .and .u8 (addF (a / 256) (b / 256) (midA a b c)) (addF (a % 256) (b % 256) c)) 6 = (adcW a b c == 0) := by
    rw [← hw, ← zboth _ _ r1 r2]
    have f1 := addF_byte (a / 256) (b / 256) (midA a b c)
    have f2 := addF_byte (a % 256) (b % 256) c
    have := isM_and _ _ 6 (by omega) f1.1 f1.2 f2.1 f2.2
    rw [show ((6 : Nat) : Int) = 6 from rfl] at this
    rw [this]
    exact congr (congrArg _ (of_mkM _ _ _ _ _ _ _ _).2.1) (of_mkM _ _ _ _ _ _ _ _).2.1
  have hh : addR (a / 256) (b / 256) (midA a b c) = adcW a b c / 256 := by
    obtain ⟨x0, x1⟩ := r2
    rw [← hw]; omega
  generalize bits .and .u8 (addF (a / 256) (b / 256) (midA a b c)) (addF (a % 256) (b % 256) c) = y at z ⊢
  unfold addF
  rw [keepZ, z, hh]
  unfold adcF wideF
  obtain ⟨a0, a1⟩ := ha
  obtain ⟨b0, b1⟩ := hb
  have key := one_bounds c
  have m : one (midA a b c) = if 255 < a % 256 + b % 256 + one c then 1 else 0 := by unfold midA; rw [addF_bit0', one_dec]
  have n4 : decide (15 < a / 256 % 16 + b / 256 % 16 + one (midA a b c)) = decide (4095 < a % 4096 + b % 4096 + one c) := by
    rw [m, Bool.eq_iff_iff]; simp; split <;> omega
  have n8 : decide (255 < a / 256 + b / 256 + one (midA a b c)) = decide (65535 < a + b + one c) := by
    rw [m, Bool.eq_iff_iff]; simp; split <;> omega
  have n7 : farM (signedM (a / 256) + signedM (b / 256) + one (midA a b c)) = farW (signedW a + signedW b + one c) := by
    unfold farM farW signedM signedW
    rw [m, Bool.eq_iff_iff]
    simp
    split <;> split <;> split <;> split <;> split <;> omega
  rw [n4, n8, n7]
theorem sbc_flags (a b : Int) (c : Bool) (ha : W16 a) (hb : W16 b) :
    keepM (subF (a / 256) (b / 256) (midS a b c)) (bits .and .u8 (subF (a / 256) (b / 256) (midS a b c)) (subF (a % 256) (b % 256) c)) 64 = sbcF a b c := by
  have hw := sbc_word a b c ha hb
  have r1 := subR_byte (a / 256) (b / 256) (midS a b c)
  have r2 := subR_byte (a % 256) (b % 256) c
  have z : isM (bits .and .u8 (subF (a / 256) (b / 256) (midS a b c)) (subF (a % 256) (b % 256) c)) 6 = (sbcW a b c == 0) := by
    rw [← hw, ← zboth _ _ r1 r2]
    have f1 := subF_byte (a / 256) (b / 256) (midS a b c)
    have f2 := subF_byte (a % 256) (b % 256) c
    have := isM_and _ _ 6 (by omega) f1.1 f1.2 f2.1 f2.2
    rw [show ((6 : Nat) : Int) = 6 from rfl] at this
    rw [this]
    exact congr (congrArg _ (of_mkM _ _ _ _ _ _ _ _).2.1) (of_mkM _ _ _ _ _ _ _ _).2.1
  have hh : subR (a / 256) (b / 256) (midS a b c) = sbcW a b c / 256 := by
    obtain ⟨x0, x1⟩ := r2
    rw [← hw]; omega
  generalize bits .and .u8 (subF (a / 256) (b / 256) (midS a b c)) (subF (a % 256) (b % 256) c) = y at z ⊢
  unfold subF
  rw [keepZ, z, hh]
  unfold sbcF wideF
  obtain ⟨a0, a1⟩ := ha
  obtain ⟨b0, b1⟩ := hb
  have key := one_bounds c
  have m : one (midS a b c) = if a % 256 - b % 256 - one c < 0 then 1 else 0 := by unfold midS; rw [subF_bit0', one_dec]
  have n4 : decide (a / 256 % 16 - b / 256 % 16 - one (midS a b c) < 0) = decide (a % 4096 - b % 4096 - one c < 0) := by
    rw [m, Bool.eq_iff_iff]; simp; split <;> omega
  have n8 : decide (a / 256 - b / 256 - one (midS a b c) < 0) = decide (a - b - one c < 0) := by
    rw [m, Bool.eq_iff_iff]; simp; split <;> omega
  have n7 : farM (signedM (a / 256) - signedM (b / 256) - one (midS a b c)) = farW (signedW a - signedW b - one c) := by
    unfold farM farW signedM signedW
    rw [m, Bool.eq_iff_iff]
    simp
    split <;> split <;> split <;> split <;> split <;> omega
  rw [n4, n8, n7]
theorem add_flags (a b f : Int) : keepM (adcF a b false) f 196 = addWF a b f := by
  unfold adcF wideF
  rw [keepSZP]
  have o : one false = 0 := rfl
  unfold addWF
  rw [o, Int.add_zero, Int.add_zero]
def mergeM (op : Bool → Bool → Bool) (a b : Int) : Int :=
  mkM (op (isM a 7) (isM b 7)) (op (isM a 6) (isM b 6)) (op (isM a 5) (isM b 5)) (op (isM a 4) (isM b 4)) (op (isM a 3) (isM b 3)) (op (isM a 2) (isM b 2)) (op (isM a 1) (isM b 1)) (op (isM a 0) (isM b 0))
theorem mergeM_byte (op : Bool → Bool → Bool) (a b : Int) : B8 (mergeM op a b) := mkM_byte ..
def upM (b0 b1 b2 b3 b4 b5 b6 b7 : Bool) : Int :=
  withM (withM (withM (withM (withM (withM (withM (withM 0 0 b0) 1 b1) 2 b2) 3 b3) 4 b4) 5 b5) 6 b6) 7 b7
theorem up_mk : ∀ b0 b1 b2 b3 b4 b5 b6 b7 : Bool, upM b0 b1 b2 b3 b4 b5 b6 b7 = mkM b7 b6 b5 b4 b3 b2 b1 b0 := by decide +kernel
def andB (x y : Bool) : Bool := x && y
def orB (x y : Bool) : Bool := x || y
def xorB (x y : Bool) : Bool := x != y
def andR (a b : Int) : Int := mergeM andB a b
def orR (a b : Int) : Int := mergeM orB a b
def xorR (a b : Int) : Int := mergeM xorB a b
def andFl (r : Int) : Int := mkM (isM r 7) (r == 0) (isM r 5) true (isM r 3) (evenM r) false false
theorem andFl_byte (r : Int) : B8 (andFl r) := mkM_byte ..
theorem andFl_fin : ∀ x : Fin 256, bits .or .u8 (evenFM (x.val : Int)) 16 = andFl (x.val : Int) := by decide +kernel
theorem andFl_all (r : Int) (h : B8 r) : bits .or .u8 (evenFM r) 16 = andFl r := byte_all (P := fun r => bits .or .u8 (evenFM r) 16 = andFl r) andFl_fin r h.1 h.2
theorem andFl_with (r : Int) (h : B8 r) : withM (evenFM r) 4 true = andFl r :=
  byte_all (P := fun r => withM (evenFM r) 4 true = andFl r) (by decide +kernel) r h.1 h.2
def linesM (f a : Int) (h n c : Bool) : Int := mkM (isM f 7) (isM f 6) (isM a 5) h (isM a 3) (isM f 2) n c
theorem linesM_byte (f a : Int) (h n c : Bool) : B8 (linesM f a h n c) := mkM_byte ..
def cplF (a f : Int) : Int := linesM f (255 - a) true true (isM f 0)
def scfF (a f : Int) : Int := linesM f a false false true
def ccfF (a f : Int) : Int := linesM f a (isM f 0) false (!isM f 0)
theorem kept_math (b f : Int) : keepM (resultM b) f 196 = linesM f b false false false := by
  obtain ⟨z0, z1, z2, z3, z4, z5, z6, z7⟩ : isM 196 0 = false ∧ isM 196 1 = false ∧ isM 196 2 = true ∧ isM 196 3 = false ∧ isM 196 4 = false ∧ isM 196 5 = false ∧ isM 196 6 = true ∧ isM 196 7 = true := by decide +kernel
  obtain ⟨e7, e6, e5, e4, e3, e2, e1, e0⟩ : isM (resultM b) 7 = _ ∧ isM (resultM b) 6 = _ ∧ isM (resultM b) 5 = _ ∧ isM (resultM b) 4 = _ ∧ isM (resultM b) 3 = _ ∧ isM (resultM b) 2 = _ ∧ isM (resultM b) 1 = _ ∧ isM (resultM b) 0 = _ := of_mkM _ _ _ _ _ _ _ _
  unfold keepM linesM
  rw [z0, z1, z2, z3, z4, z5, z6, z7, e0, e1, e3, e4, e5]
  rfl
theorem mk_or : ∀ b0 b1 b2 b3 b4 b5 b6 b7 : Bool, bits .or .u8 (mkM b0 b1 b2 b3 b4 b5 b6 b7) 1 = mkM b0 b1 b2 b3 b4 b5 b6 true ∧ bits .or .u8 (mkM b0 b1 b2 b3 b4 b5 b6 b7) 16 = mkM b0 b1 b2 true b4 b5 b6 b7 ∧ bits .or .u8 (mkM b0 b1 b2 b3 b4 b5 b6 b7) 2 = mkM b0 b1 b2 b3 b4 b5 true b7 ∧ bits .or .u8 (mkM b0 b1 b2 b3 b4 b5 b6 b7) 0 = mkM b0 b1 b2 b3 b4 b5 b6 b7 := by decide +kernel
theorem low_one : ∀ x : Fin 256, bits .and .u8 (x.val : Int) 1 = one (isM (x.val : Int) 0) := by decide +kernel
theorem low_all (f : Int) (h : B8 f) : bits .and .u8 f 1 = one (isM f 0) := byte_all (P := fun f => bits .and .u8 f 1 = one (isM f 0)) low_one f h.1 h.2
theorem or_one (b0 b1 b2 b3 b4 b5 b6 c : Bool) : bits .or .u8 (mkM b0 b1 b2 b3 b4 b5 b6 false) (one c) = mkM b0 b1 b2 b3 b4 b5 b6 c := by
  cases c
  · exact (mk_or b0 b1 b2 b3 b4 b5 b6 false).2.2.2
  · exact (mk_or b0 b1 b2 b3 b4 b5 b6 false).1
theorem cpl_math (a f : Int) (hf : B8 f) : bits .or .u8 (bits .or .u8 (bits .or .u8 (keepM (resultM (255 - a)) f 196) (bits .and .u8 f 1)) 16) 2 = cplF a f := by
  rw [kept_math, low_all f hf]
  unfold linesM cplF linesM
  rw [or_one, (mk_or _ _ _ _ _ _ _ _).2.1, (mk_or _ _ _ _ _ _ _ _).2.2.1]
theorem scf_math (a f : Int) : bits .or .u8 (keepM (resultM a) f 196) 1 = scfF a f := by
  rw [kept_math]
  unfold linesM scfF linesM
  rw [(mk_or _ _ _ _ _ _ _ _).1]
theorem ccf_no (a f : Int) (h : isM f 0 = false) : scfF a f = ccfF a f := by
  unfold scfF ccfF
  rw [h]
  rfl
theorem ccf_yes (a f : Int) (h : isM f 0 = true) : bits .or .u8 (keepM (resultM a) f 196) 16 = ccfF a f := by
  rw [kept_math]
  unfold linesM ccfF linesM
  rw [h, (mk_or _ _ _ _ _ _ _ _).2.1]
  rfl
def wrongLow (a f : Int) : Bool := isM f 4 || decide (9 < a % 16)
def wrongHigh (a f : Int) : Bool := isM f 0 || decide (153 < a)
def byM (a f : Int) : Int := (if wrongLow a f then 6 else 0) + (if wrongHigh a f then 96 else 0)
def daaR (a f : Int) : Int := if isM f 1 then (a - byM a f) % 256 else (a + byM a f) % 256
def daaF (a f : Int) : Int :=
  mkM (isM (daaR a f) 7) (daaR a f == 0) (isM (daaR a f) 5) (isM a 4 != isM (daaR a f) 4) (isM (daaR a f) 3) (evenM (daaR a f)) (isM f 1) (wrongHigh a f)
theorem daaR_byte (a f : Int) : B8 (daaR a f) := by unfold daaR B8; split <;> omega
theorem daaF_byte (a f : Int) : B8 (daaF a f) := mkM_byte ..
theorem byM_byte (a f : Int) : 0 ≤ byM a f ∧ byM a f ≤ 102 := by unfold byM; split <;> split <;> omega
def inM (kind b f : Int) : Bool :=
  if kind = 0 then isM b 7 else if kind = 1 then isM b 0 else if kind = 2 then isM f 0 else if kind = 3 then isM f 0 else
  if kind = 4 then false else if kind = 5 then isM b 7 else if kind = 6 then true else false
def soutM (kind b : Int) : Bool := if kind % 2 = 0 then isM b 7 else isM b 0
def shlM (b : Int) (i : Bool) : Int := withM (turnM b 1) 0 i
def shrM (b : Int) (i : Bool) : Int := withM (turnM b (-1)) 7 i
def shM (kind b f : Int) : Int := if kind % 2 = 0 then shlM b (inM kind b f) else shrM b (inM kind b f)
def doR (kind b f : Int) : Int := if 0 ≤ kind ∧ kind < 8 then shM kind b f else b
def doF (kind b f : Int) : Int := if 0 ≤ kind ∧ kind < 8 then withM (evenFM (shM kind b f)) 0 (soutM kind b) else f
def accR (kind b f : Int) : Int := if 0 ≤ kind ∧ kind < 4 then shM kind b f else b
def accF (kind b f : Int) : Int := if 0 ≤ kind ∧ kind < 4 then linesM f (shM kind b f) false false (soutM kind b) else f
theorem shM_byte (kind b f : Int) (hb : B8 b) : B8 (shM kind b f) := by
  unfold shM shlM shrM
  split
  · exact B8.with (turnM_byte b 1 hb.1 hb.2) _ _
  · exact B8.with (turnM_byte b (-1) hb.1 hb.2) _ _
theorem doR_byte (kind b f : Int) (hb : B8 b) : B8 (doR kind b f) := by
  unfold doR
  split
  · exact shM_byte _ _ _ hb
  · exact hb
theorem doF_byte (kind b f : Int) (hf : B8 f) : B8 (doF kind b f) := by
  unfold doF
  split
  · exact B8.with (evenFM_byte _) _ _
  · exact hf
theorem accR_byte (kind b f : Int) (hb : B8 b) : B8 (accR kind b f) := by
  unfold accR
  split
  · exact shM_byte _ _ _ hb
  · exact hb
theorem accF_byte (kind b f : Int) (hf : B8 f) : B8 (accF kind b f) := by
  unfold accF
  split
  · exact linesM_byte ..
  · exact hf
def upTo (b : Int) : Int := withM (withM (withM (withM (withM (withM (withM (withM 0 1 (isM b 0)) 2 (isM b 1)) 3 (isM b 2)) 4 (isM b 3)) 5 (isM b 4)) 6 (isM b 5)) 7 (isM b 6)) 8 (isM b 7)
def downTo (b : Int) : Int := withM (withM (withM (withM (withM (withM (withM (withM 0 (-1) (isM b 0)) 0 (isM b 1)) 1 (isM b 2)) 2 (isM b 3)) 3 (isM b 4)) 4 (isM b 5)) 5 (isM b 6)) 6 (isM b 7)
theorem up_fin : ∀ (x : Fin 256) (i : Bool), withM (upTo (x.val : Int)) 0 i = shlM (x.val : Int) i ∧ withM (downTo (x.val : Int)) 7 i = shrM (x.val : Int) i := by decide +kernel
theorem up_all (b : Int) (hb : B8 b) (i : Bool) : withM (upTo b) 0 i = shlM b i ∧ withM (downTo b) 7 i = shrM b i :=
  byte_all (P := fun b => withM (upTo b) 0 i = shlM b i ∧ withM (downTo b) 7 i = shrM b i) (fun x => up_fin x i) b hb.1 hb.2
def evenC (r : Int) (c : Bool) : Int := withM (evenFM r) 0 c
theorem evenC_byte (r : Int) (c : Bool) : B8 (evenC r c) := B8.with (evenFM_byte r) _ _
theorem mk_c : ∀ b0 b1 b2 b3 b4 b5 b6 c : Bool, withM (mkM b0 b1 b2 b3 b4 b5 b6 false) 0 c = mkM b0 b1 b2 b3 b4 b5 b6 c := by decide +kernel
theorem even_or (r : Int) (c : Bool) : bits .or .u8 (evenFM r) (one c) = evenC r c := by
  unfold evenC evenFM
  rw [or_one, mk_c]
theorem lines_or (r f : Int) (c : Bool) : bits .or .u8 (keepM (resultM r) f 196) (one c) = linesM f r false false c := by
  rw [kept_math]
  unfold linesM
  rw [or_one]
def digA (right : Bool) (a b : Int) : Int := a / 16 * 16 + (if right then b % 16 else b / 16)
def digB (right : Bool) (a b : Int) : Int := (if right then a % 16 else b % 16) * 16 + (if right then b / 16 else a % 16)
theorem digA_byte (right : Bool) (a b : Int) (ha : B8 a) (hb : B8 b) : B8 (digA right a b) := by
  have a0 := ha.1; have a1 := ha.2; have b0 := hb.1; have b1 := hb.2
  cases right <;> (simp only [digA, B8, if_true, if_false, Bool.false_eq_true]; omega)
theorem digB_byte (right : Bool) (a b : Int) (ha : B8 a) (hb : B8 b) : B8 (digB right a b) := by
  have a0 := ha.1; have a1 := ha.2; have b0 := hb.1; have b1 := hb.2
  cases right <;> (simp only [digB, B8, if_true, if_false, Bool.false_eq_true]; omega)
theorem low4_fin : ∀ x : Fin 256, bits .and .u8 (x.val : Int) 15 = (x.val : Int) % 16 ∧ bits .andNot .u8 (x.val : Int) 15 = (x.val : Int) / 16 * 16 := by decide +kernel
theorem low4_all (b : Int) (hb : B8 b) : bits .and .u8 b 15 = b % 16 ∧ bits .andNot .u8 b 15 = b / 16 * 16 :=
  byte_all (P := fun b => bits .and .u8 b 15 = b % 16 ∧ bits .andNot .u8 b 15 = b / 16 * 16) low4_fin b hb.1 hb.2
theorem join4_fin : ∀ x y : Fin 16, bits .or .u8 ((x.val : Int) * 16) (y.val : Int) = (x.val : Int) * 16 + (y.val : Int) := by decide +kernel
theorem join4_all (x y : Int) (h0 : 0 ≤ x) (h1 : x < 16) (h2 : 0 ≤ y) (h3 : y < 16) : bits .or .u8 (x * 16) y = x * 16 + y := by
  have := join4_fin ⟨x.toNat, by omega⟩ ⟨y.toNat, by omega⟩
  simpa [Int.toNat_of_nonneg h0, Int.toNat_of_nonneg h2] using this
def bitF (n b lines f : Int) : Int := mkM ((n == 7) && isM b n) (!isM b n) (isM lines 5) true (isM lines 3) (!isM b n) false (isM f 0)
theorem bitF_byte (n b lines f : Int) : B8 (bitF n b lines f) := mkM_byte ..
def bitG (lines f : Int) : Int := mkM false false (isM lines 5) true (isM lines 3) false false (isM f 0)
theorem or16 : ∀ c : Bool, bits .or .u8 16 (one c) = mkM false false false true false false false c := by decide +kernel
theorem bit_math (lines f : Int) (hf : B8 f) : keepM (bits .or .u8 16 (bits .and .u8 f 1)) lines 40 = bitG lines f := by
  obtain ⟨z0, z1, z2, z3, z4, z5, z6, z7⟩ : isM 40 0 = false ∧ isM 40 1 = false ∧ isM 40 2 = false ∧ isM 40 3 = true ∧ isM 40 4 = false ∧ isM 40 5 = true ∧ isM 40 6 = false ∧ isM 40 7 = false := by decide +kernel
  rw [low_all f hf, or16]
  obtain ⟨e7, e6, e5, e4, e3, e2, e1, e0⟩ := of_mkM false false false true false false false (isM f 0)
  unfold keepM bitG
  rw [z0, z1, z2, z3, z4, z5, z6, z7, e0, e1, e2, e4, e6, e7]
  rfl
theorem bit_or : ∀ y x c : Bool, bits .or .u8 (bits .or .u8 (mkM false false y true x false false c) 64) 4 = mkM false true y true x true false c ∧ bits .or .u8 (mkM false false y true x false false c) 128 = mkM true false y true x false false c := by decide +kernel
theorem bit_no (n b lines f : Int) (h : isM b n = false) : bits .or .u8 (bits .or .u8 (bitG lines f) 64) 4 = bitF n b lines f := by
  unfold bitF bitG
  rw [h, (bit_or _ _ _).1]
  simp
theorem bit_seven (b lines f : Int) (h : isM b 7 = true) : bits .or .u8 (bitG lines f) 128 = bitF 7 b lines f := by
  unfold bitF bitG
  rw [h, (bit_or _ _ _).2]
  rfl
theorem bit_yes (n b lines f : Int) (h : isM b n = true) (hn : ¬ n = 7) : bitG lines f = bitF n b lines f := by
  unfold bitF bitG
  rw [h, show (n == 7) = false from by simpa using hn]
  rfl
def plusM (a b : Int) : Int := (a + b) % 256
theorem plusM_byte (a b : Int) : B8 (plusM a b) := by unfold plusM B8; omega
def lessM (a b : Int) : Int := if isM (subF a b false) 4 then (subR a b false + 255) % 256 else subR a b false
theorem lessM_byte (a b : Int) : B8 (lessM a b) := by
  unfold lessM
  split
  · unfold B8; omega
  · exact subR_byte ..
theorem lessM_yes (a b : Int) (h : isM (subF a b false) 4 = true) : (subR a b false + 255) % 256 = lessM a b := by unfold lessM; rw [if_pos h]
theorem lessM_yes' (a b : Int) (h : isM (subF a b false) 4 = true) : (subR a b false - 1) % 256 = lessM a b := by
  rw [← lessM_yes a b h]; omega
theorem lessM_no (a b : Int) (h : isM (subF a b false) 4 = false) : subR a b false = lessM a b := by unfold lessM; rw [if_neg (by simp [h])]
def moveF (a b bc f : Int) : Int := mkM (isM f 7) (isM f 6) (isM (plusM a b) 1) false (isM (plusM a b) 3) (bc != 0) false (isM f 0)
def findF (a b bc f : Int) : Int :=
  mkM (isM (subF a b false) 7) (isM (subF a b false) 6) (isM (lessM a b) 1) (isM (subF a b false) 4) (isM (lessM a b) 3) (bc != 0) true (isM f 0)
def passF (b k left : Int) : Int :=
  mkM (isM left 7) (left == 0) (isM left 5) (decide (255 < k)) (isM left 3) (evenM (xorR (k % 8) left)) (isM b 7) (decide (255 < k))
def byC (c s : Int) : Int := (c + s) % 256
theorem byC_byte (c s : Int) : B8 (byC c s) := by unfold byC B8; omega
theorem moveF_byte (a b bc f : Int) : B8 (moveF a b bc f) := mkM_byte ..
theorem findF_byte (a b bc f : Int) : B8 (findF a b bc f) := mkM_byte ..
theorem passF_byte (b k left : Int) : B8 (passF b k left) := mkM_byte ..
def againM (kind f : Int) : Bool :=
  if kind = 0 then isM f 2 else if kind = 1 then isM f 2 && !isM f 6 else if kind = 2 then !isM f 6 else if kind = 3 then !isM f 6 else false
theorem againM_out (kind f : Int) (h : kind < 0 ∨ 4 ≤ kind) : againM kind f = false := by
  unfold againM
  repeat (rw [if_neg (by omega)])
theorem xorR_bits (a b : Int) (ha : B8 a) (hb : B8 b) : bits .xor .u8 a b = xorR a b := by
  have q := xor_byte a b ha.1 ha.2 hb.1 hb.2
  have r : B8 (xorR a b) := mergeM_byte ..
  refine byte_ext _ _ q.1 q.2 r.1 r.2 fun n hn => ?_
  rw [isM_xor a b n hn ha.1 ha.2 hb.1 hb.2]
  unfold xorR mergeM
  rw [isM_mkM _ _ _ _ _ _ _ _ n hn]
  refine nat8 (fun n => (isM a n ^^ isM b n) = [_, _, _, _, _, _, _, _].getD n false) ?_ n hn
  simp only [List.getD_cons_zero, List.getD_cons_succ, xorB]
  exact ⟨rfl, rfl, rfl, rfl, rfl, rfl, rfl, rfl⟩
structure Ms where
  r : Rg
  plane : Int
  x : Int
  y : Int
  z : Int
  p : Int
  q : Int
  spot : Int
  near : Bool
structure MsB (s : Ms) : Prop where
  r : RgB s.r
  plane : s.plane = 0 ∨ s.plane = 3 ∨ s.plane = 4
  x : 0 ≤ s.x ∧ s.x ≤ 3
  y : 0 ≤ s.y ∧ s.y ≤ 7
  z : 0 ≤ s.z ∧ s.z ≤ 7
  p : 0 ≤ s.p ∧ s.p ≤ 3
  q : 0 ≤ s.q ∧ s.q ≤ 1
  spot : Wd16 s.spot
def askN (c : Cy) (s : Ms) : Tr (Int × Ms) := .ask c fun b => .done (b, s)
def readN (a : Int) (s : Ms) : Tr (Int × Ms) := askN ⟨2, a, 0, 3⟩ s
def writeN (a b : Int) (s : Ms) : Tr Ms := (askN ⟨3, a, b, 3⟩ s).bind fun b => .done b.2
def inN (a : Int) (s : Ms) : Tr (Int × Ms) := askN ⟨4, a, 0, 4⟩ s
def outN (a b : Int) (s : Ms) : Tr Ms := (askN ⟨5, a, b, 4⟩ s).bind fun b => .done b.2
def pauseN (n : Int) (s : Ms) : Tr Ms := (askN ⟨7, 0, 0, n⟩ s).bind fun b => .done b.2
def Ms.pc (s : Ms) (v : Int) : Ms := { s with r := { s.r with pc := v } }
def Ms.sp (s : Ms) (v : Int) : Ms := { s with r := { s.r with sp := v } }
def Ms.wz (s : Ms) (v : Int) : Ms := { s with r := { s.r with wz := v } }
def Ms.af (s : Ms) (a f : Int) : Ms := { s with r := { s.r with af := 256 * a + f } }
def Ms.pcUp (s : Ms) : Ms := s.pc ((s.r.pc + 1) % 65536)
def glanceN (s : Ms) : Tr (Int × Ms) := (askN ⟨1, s.r.pc, 0, 4⟩ s).bind fun b => .done (b.1, { b.2 with r := tickG b.2.r 1 })
def fetchN (s : Ms) : Tr (Int × Ms) := (glanceN s).bind fun b => .done (b.1, b.2.pcUp)
def numberN (s : Ms) : Tr (Int × Ms) := (readN s.r.pc s).bind fun b => .done (b.1, b.2.pcUp)
def wordN (s : Ms) : Tr (Int × Ms) := (numberN s).bind fun l => (numberN l.2).bind fun h => .done (256 * h.1 + l.1, h.2)
def wordAtN (a : Int) (s : Ms) : Tr (Int × Ms) := (readN a s).bind fun l => (readN ((a + 1) % 65536) l.2).bind fun h => .done (256 * h.1 + l.1, h.2)
def Ms.spDown (s : Ms) : Ms := s.sp ((s.r.sp - 1) % 65536)
def pushN (w : Int) (s : Ms) : Tr Ms := (writeN s.spDown.r.sp (w / 256) s.spDown).bind fun s => writeN s.spDown.r.sp (w % 256) s.spDown
def popN (s : Ms) : Tr (Int × Ms) := (wordAtN s.r.sp s).bind fun w => .done (w.1, w.2.sp ((w.2.r.sp + 2) % 65536))
def Ms.goTo (s : Ms) (w : Int) : Ms := (s.pc w).wz w
def Ms.a (s : Ms) : Int := s.r.af / 256
def Ms.f (s : Ms) : Int := s.r.af % 256
def Ms.setA (s : Ms) (a : Int) : Ms := s.af a s.f
def Ms.setF (s : Ms) (f : Int) : Ms := s.af s.a f
def Ms.carry (s : Ms) : Int := one (isM s.f 0)
def Ms.hl (s : Ms) : Int := pairG s.r s.plane 2
def Ms.setHL (s : Ms) (w : Int) : Ms := { s with r := setPairG s.r s.plane 2 w }
def Ms.pair (s : Ms) : Int := pairG s.r s.plane s.p
def Ms.setPair (s : Ms) (w : Int) : Ms := { s with r := setPairG s.r s.plane s.p w }
def getN (k : Int) (s : Ms) : Tr (Int × Ms) := if k = 6 then readN s.spot s else .done (getG s.r s.plane k, s)
def putN (k b : Int) (s : Ms) : Tr Ms := if k = 6 then writeN s.spot b s else .done { s with r := setG s.r s.plane k b }
def Ms.left (s : Ms) : Int := (getG s.r s.plane 0 - 1) % 256
def Ms.lessB (s : Ms) : Ms := { s with r := setG s.r s.plane 0 s.left }
def aimN (s : Ms) : Tr Ms := (numberN s).bind fun n => .done { n.2.wz (moveM s.hl (signedM n.1)) with spot := moveM s.hl (signedM n.1), near := true, plane := 0 }
def Ms.split (s : Ms) (c : Int) : Ms := { s with x := fx c, y := fy c, z := fz c, p := fp c, q := fq c }
def Ms.holds (s : Ms) (c : Int) : Bool := testM s.f c
def jumpByN (holds : Bool) (s : Ms) : Tr Ms := (numberN s).bind fun e => if holds then (pauseN 5 e.2).bind fun s => .done (s.goTo (moveM s.r.pc (signedM e.1))) else .done e.2
def branchN (s : Ms) : Tr Ms :=
  if s.y = 0 then .done s else if s.y = 1 then .done { s with r := swapG s.r } else
  if s.y = 2 then (pauseN 1 s).bind fun s => jumpByN (s.left != 0) s.lessB else
  if s.y = 3 then jumpByN true s else jumpByN (s.holds (s.y - 4)) s
def wholePairN (s : Ms) : Tr Ms :=
  if s.q = 0 then (wordN s).bind fun w => .done (w.2.setPair w.1) else
  (pauseN 7 s).bind fun s =>
    let t := s.wz ((s.hl + 1) % 65536)
    .done ((t.setHL (adcW t.hl t.pair false)).setF (addWF t.hl t.pair t.f))
def trailA (s : Ms) (at_ : Int) : Ms := s.wz (256 * s.a + (at_ % 256 + 1) % 256)
def storeAN (at_ : Int) (s : Ms) : Tr Ms := (writeN at_ s.a s).bind fun s => .done (trailA s at_)
def loadAN (at_ : Int) (s : Ms) : Tr Ms := (readN at_ s).bind fun b => .done ((b.2.setA b.1).wz ((at_ + 1) % 65536))
def storeWordN (at_ w : Int) (s : Ms) : Tr Ms := (writeN at_ (w % 256) s).bind fun s => (writeN ((at_ + 1) % 65536) (w / 256) s).bind fun s => .done (s.wz ((at_ + 1) % 65536))
def loadWordN (at_ : Int) (s : Ms) : Tr (Int × Ms) := (wordAtN at_ s).bind fun w => .done (w.1, w.2.wz ((at_ + 1) % 65536))
def throughPlaceN (s : Ms) : Tr Ms :=
  if s.y = 0 ∨ s.y = 2 then storeAN s.pair s else if s.y = 1 ∨ s.y = 3 then loadAN s.pair s else
  if s.y = 4 then (wordN s).bind fun w => storeWordN w.1 w.2.hl w.2 else
  if s.y = 5 then (wordN s).bind fun w => (loadWordN w.1 w.2).bind fun v => .done (v.2.setHL v.1) else
  if s.y = 6 then (wordN s).bind fun w => storeAN w.1 w.2 else
  if s.y = 7 then (wordN s).bind fun w => loadAN w.1 w.2 else .done s
def stepPairN (s : Ms) : Tr Ms := (pauseN 2 s).bind fun s => if s.q = 0 then .done (s.setPair ((s.pair + 1) % 65536)) else .done (s.setPair ((s.pair - 1) % 65536))
def countN (d : Bool) (s : Ms) : Tr Ms := (getN s.y s).bind fun b => (if b.2.y = 6 then pauseN 1 b.2 else .done b.2).bind fun s =>
  putN s.y (if d then subR b.1 1 false else addR b.1 1 false) (s.setF (if d then decF b.1 s.f else incF b.1 s.f))
def loadNumberN (s : Ms) : Tr Ms := (numberN s).bind fun n => (if n.2.near then pauseN 2 n.2 else .done n.2).bind fun s => putN s.y n.1 s
def adjustN (s : Ms) : Ms :=
  if s.y = 4 then s.af (daaR s.a s.f) (daaF s.a s.f) else if s.y = 5 then s.af (255 - s.a) (cplF s.a s.f) else
  if s.y = 6 then s.af s.a (scfF s.a s.f) else if s.y = 7 then s.af s.a (ccfF s.a s.f) else s.af (accR s.y s.a s.f) (accF s.y s.a s.f)
def arithN (b : Int) (s : Ms) : Ms :=
  if s.y = 0 then s.af (addR s.a b false) (addF s.a b false) else if s.y = 1 then s.af (addR s.a b (s.carry != 0)) (addF s.a b (s.carry != 0)) else
  if s.y = 2 then s.af (subR s.a b false) (subF s.a b false) else if s.y = 3 then s.af (subR s.a b (s.carry != 0)) (subF s.a b (s.carry != 0)) else
  if s.y = 4 then s.af (andR s.a b) (andFl (andR s.a b)) else if s.y = 5 then s.af (xorR s.a b) (evenFM (xorR s.a b)) else
  if s.y = 6 then s.af (orR s.a b) (evenFM (orR s.a b)) else if s.y = 7 then s.af s.a (cmpF s.a b) else s.af s.a s.f
def variousN (s : Ms) : Tr Ms :=
  if s.z = 0 then branchN s else if s.z = 1 then wholePairN s else if s.z = 2 then throughPlaceN s else if s.z = 3 then stepPairN s else
  if s.z = 4 then countN false s else if s.z = 5 then countN true s else if s.z = 6 then loadNumberN s else if s.z = 7 then .done (adjustN s) else .done s
def loadN (s : Ms) : Tr Ms := if s.y = 6 ∧ s.z = 6 then .done { s with r := { s.r with halted := true } } else (getN s.z s).bind fun b => putN s.y b.1 b.2
def reckonN (s : Ms) : Tr Ms := (getN s.z s).bind fun b => .done (arithN b.1 b.2)
def popsN (s : Ms) : Tr Ms :=
  if s.q = 0 then (if s.p = 3 then (popN s).bind fun w => .done { w.2 with r := { w.2.r with af := w.1 } } else (popN s).bind fun w => .done (w.2.setPair w.1)) else
  if s.p = 0 then (popN s).bind fun w => .done (w.2.goTo w.1) else if s.p = 1 then .done { s with r := exxG s.r } else
  if s.p = 2 then .done (s.pc s.hl) else if s.p = 3 then (pauseN 2 s).bind fun s => .done (s.sp s.hl) else .done s
def callN (holds : Bool) (s : Ms) : Tr Ms := (wordN s).bind fun w => if holds then (pauseN 1 (w.2.wz w.1)).bind fun s => (pushN s.r.pc s).bind fun s => .done (s.pc s.r.wz) else .done (w.2.wz w.1)
def pushesN (s : Ms) : Tr Ms := if s.q = 0 then (pauseN 1 s).bind fun s => if s.p = 3 then pushN s.r.af s else pushN s.pair s else callN true s
def exchangeTopN (s : Ms) : Tr Ms := (wordAtN s.r.sp s).bind fun w => (pauseN 1 w.2).bind fun t => (writeN ((t.r.sp + 1) % 65536) (w.2.hl / 256) t).bind fun t =>
  (writeN t.r.sp (w.2.hl % 256) t).bind fun t => (pauseN 2 t).bind fun t => .done ((t.setHL w.1).wz w.1)
def singleN (s : Ms) : Tr Ms :=
  if s.y = 0 then (wordN s).bind fun w => .done (w.2.goTo w.1) else
  if s.y = 2 then (numberN s).bind fun n => (outN (256 * s.a + n.1) n.2.a n.2).bind fun t => .done (trailA t (256 * s.a + n.1)) else
  if s.y = 3 then (numberN s).bind fun n => (inN (256 * s.a + n.1) n.2).bind fun b => .done ((b.2.setA b.1).wz ((256 * s.a + n.1 + 1) % 65536)) else
  if s.y = 4 then exchangeTopN s else if s.y = 5 then .done { s with r := { s.r with de := s.r.hl, hl := s.r.de } } else
  if s.y = 6 then .done { s with r := { s.r with iff1 := false, iff2 := false } } else if s.y = 7 then .done { s with r := { s.r with iff1 := true, iff2 := true, late := true } } else .done s
def controlN (s : Ms) : Tr Ms :=
  if s.z = 0 then (pauseN 1 s).bind fun s => if s.holds s.y then (popN s).bind fun w => .done (w.2.goTo w.1) else .done s else
  if s.z = 1 then popsN s else
  if s.z = 2 then (wordN s).bind fun w => if w.2.holds w.2.y then .done ((w.2.wz w.1).pc w.1) else .done (w.2.wz w.1) else
  if s.z = 3 then singleN s else if s.z = 4 then callN (s.holds s.y) s else if s.z = 5 then pushesN s else
  if s.z = 6 then (numberN s).bind fun n => .done (arithN n.1 n.2) else
  if s.z = 7 then (pauseN 1 s).bind fun s => (pushN s.r.pc s).bind fun s => .done (s.goTo ((8 * s.y) % 65536)) else .done s
def takeInN (s : Ms) : Tr Ms := (inN s.r.bc s).bind fun b =>
  let t := (b.2.wz ((b.2.r.bc + 1) % 65536)).setF (withM (evenFM b.1) 0 (isM b.2.f 0))
  if t.y = 6 then .done t else putN t.y b.1 t
def giveOutN (s : Ms) : Tr Ms := (if s.y = 6 then .done (0, s) else getN s.y s).bind fun b => (outN b.2.r.bc b.1 b.2).bind fun s => .done (s.wz ((s.r.bc + 1) % 65536))
def addCarriedN (s : Ms) : Tr Ms := (pauseN 7 s).bind fun s =>
  let t := s.wz ((s.r.hl + 1) % 65536)
  if t.q = 0 then .done (({ t with r := { t.r with hl := sbcW t.r.hl t.pair (isM t.f 0) } } : Ms).setF (sbcF t.r.hl t.pair (isM t.f 0)))
  else .done (({ t with r := { t.r with hl := adcW t.r.hl t.pair (isM t.f 0) } } : Ms).setF (adcF t.r.hl t.pair (isM t.f 0)))
def pairAtPlaceN (s : Ms) : Tr Ms := (wordN s).bind fun at_ => if at_.2.q = 0 then storeWordN at_.1 at_.2.pair at_.2 else (loadWordN at_.1 at_.2).bind fun w => .done (w.2.setPair w.1)
def showN (b : Int) (s : Ms) : Ms := s.af b (withM (withM (resultM b) 0 (isM s.f 0)) 2 s.r.iff2)
def turnDigitsN (s : Ms) : Tr Ms := (readN s.r.hl s).bind fun b => (pauseN 4 b.2).bind fun s =>
  (writeN s.r.hl (digB (s.y == 4) s.a b.1) (s.af (digA (s.y == 4) s.a b.1) (evenC (digA (s.y == 4) s.a b.1) (isM s.f 0)))).bind fun s => .done (s.wz ((s.r.hl + 1) % 65536))
def specialN (s : Ms) : Tr Ms :=
  if s.y = 0 then (pauseN 1 s).bind fun s => .done { s with r := { s.r with i := s.a } } else
  if s.y = 1 then (pauseN 1 s).bind fun s => .done { s with r := { s.r with r := s.a } } else
  if s.y = 2 then (pauseN 1 s).bind fun s => .done (showN s.r.i s) else
  if s.y = 3 then (pauseN 1 s).bind fun s => .done (showN s.r.r s) else
  if s.y = 4 ∨ s.y = 5 then turnDigitsN s else .done s
def Ms.mode (s : Ms) (m : Int) : Ms := { s with r := { s.r with mode := m } }
def extendedN (s : Ms) : Tr Ms :=
  if s.z = 0 then takeInN s else if s.z = 1 then giveOutN s else if s.z = 2 then addCarriedN s else if s.z = 3 then pairAtPlaceN s else
  if s.z = 4 then .done (s.af (subR 0 s.a false) (subF 0 s.a false)) else
  if s.z = 5 then (popN s).bind fun w => .done { (w.2.goTo w.1) with r := { (w.2.goTo w.1).r with iff1 := w.2.r.iff2 } } else
  if s.z = 6 then (if s.y % 4 = 2 then .done (s.mode 1) else if s.y % 4 = 3 then .done (s.mode 2) else .done (s.mode 0)) else if s.z = 7 then specialN s else .done s
def Ms.hlBy (s : Ms) (d : Int) : Ms := { s with r := { s.r with hl := moveM s.r.hl d } }
def Ms.deBy (s : Ms) (d : Int) : Ms := { s with r := { s.r with de := moveM s.r.de d } }
def Ms.bcDown (s : Ms) : Ms := { s with r := { s.r with bc := (s.r.bc - 1) % 65536 } }
def blockMoveN (d : Int) (s : Ms) : Tr Ms := (readN s.r.hl s).bind fun b => (writeN b.2.r.de b.1 b.2).bind fun s => (pauseN 2 s).bind fun s =>
  let t := ((s.hlBy d).deBy d).bcDown
  .done (t.setF (moveF t.a b.1 t.r.bc t.f))
def blockFindN (d : Int) (s : Ms) : Tr Ms := (readN s.r.hl s).bind fun b => (pauseN 5 b.2).bind fun s =>
  let t := ((s.hlBy d).wz (moveM s.r.wz d)).bcDown
  .done (t.setF (findF t.a b.1 t.r.bc t.f))
def blockTakeN (d : Int) (s : Ms) : Tr Ms := (pauseN 1 s).bind fun s => (inN s.r.bc s).bind fun b =>
  let t := b.2.wz (moveM b.2.r.bc d)
  (writeN t.lessB.r.hl b.1 t.lessB).bind fun s => .done ((s.hlBy d).setF (passF b.1 (b.1 + byC (getG (s.hlBy d).r (s.hlBy d).plane 1) d) t.left))
def blockGiveN (d : Int) (s : Ms) : Tr Ms := (pauseN 1 s).bind fun s => (readN s.r.hl s).bind fun b =>
  let t := b.2.lessB.wz (moveM b.2.lessB.r.bc d)
  (outN t.r.bc b.1 t).bind fun s => .done ((s.hlBy d).setF (passF b.1 (b.1 + (s.hlBy d).r.hl % 256) b.2.left))
def repeatN (s : Ms) : Tr Ms := (pauseN 5 s).bind fun s => if s.z = 0 ∨ s.z = 1 then .done ((s.pc ((s.r.pc - 2) % 65536)).wz (((s.r.pc - 2) % 65536 + 1) % 65536)) else .done (s.pc ((s.r.pc - 2) % 65536))
def blockSel (d : Int) (s : Ms) : Tr Ms := (if s.z = 0 then blockMoveN d s else if s.z = 1 then blockFindN d s else if s.z = 2 then blockTakeN d s else if s.z = 3 then blockGiveN d s else .done s).bind fun s =>
  if 6 ≤ s.y ∧ againM s.z s.f = true then repeatN s else .done s
def blocksN (s : Ms) : Tr Ms := if 4 ≤ s.z ∨ s.y < 4 then .done s else if s.q = 0 then blockSel 1 s else blockSel (-1) s
def Ms.inMem (s : Ms) : Bool := s.near || (s.z == 6)
def operandN (s : Ms) : Tr (Int × Ms) := if s.inMem = true then (readN s.spot s).bind fun b => (pauseN 1 b.2).bind fun t => .done (b.1, t) else getN s.z s
def resultN (b : Int) (s : Ms) : Tr Ms := (if s.inMem = true then writeN s.spot b s else .done s).bind fun s => if s.z = 6 then .done s else putN s.z b s
def shiftedN (s : Ms) : Tr Ms := (operandN s).bind fun b => resultN (doR b.2.y b.1 b.2.f) (b.2.setF (doF b.2.y b.1 b.2.f))
def testedN (s : Ms) : Tr Ms := (operandN s).bind fun b => if b.2.inMem = true then .done (b.2.setF (bitF b.2.y b.1 (b.2.r.wz / 256) b.2.f)) else .done (b.2.setF (bitF b.2.y b.1 b.1 b.2.f))
def changedN (on : Bool) (s : Ms) : Tr Ms := (operandN s).bind fun b => resultN (withM b.1 b.2.y on) b.2
def codeCBN (s : Ms) : Tr (Int × Ms) := if s.plane = 0 then fetchN s else (aimN s).bind fun s => (numberN s).bind fun c => (pauseN 2 c.2).bind fun s => .done (c.1, s)
def aloneHead (c : Int) (s : Ms) : Tr Ms := if nearM s.plane c = true then (aimN (s.split c)).bind fun s => if s.x ≠ 0 ∨ s.z ≠ 6 then pauseN 5 s else .done s else .done (s.split c)
def quarterN (s : Ms) : Tr Ms := if s.x = 0 then variousN s else if s.x = 1 then loadN s else if s.x = 2 then reckonN s else controlN s
def quarterE (s : Ms) : Tr Ms := if s.x = 1 then extendedN s else if s.x = 2 then blocksN s else .done s
def quarterC (s : Ms) : Tr Ms := if s.x = 0 then shiftedN s else if s.x = 1 then testedN s else if s.x = 2 then changedN false s else changedN true s
def Ms.atHL (s : Ms) : Ms := { s with spot := s.r.hl }
def Ms.toPlane (s : Ms) (v : Int) : Ms := { s with plane := v }
def Ms.noLate (s : Ms) : Ms := { s with r := { s.r with late := false } }
def bodyN (c : Int) (s : Ms) : Tr Ms :=
  if c = 203 then ((codeCBN s.atHL).bind fun c => .done (c.2.split c.1)).bind quarterC else
  if c = 237 then ((fetchN (s.atHL.toPlane 0)).bind fun c => .done (c.2.split c.1)).bind quarterE else
  (aloneHead c s.atHL).bind quarterN
def execN : List Int → Int → Ms → Except Cy (Ms × List Int)
  | [], c, s => if c = 221 ∨ c = 253 then .error ⟨1, s.r.pc, 0, 4⟩ else (bodyN c s).run []
  | b :: bs, c, s => if c = 221 ∨ c = 253 then execN bs b ({ s.toPlane (if c = 253 then 4 else 3) with r := tickG s.r 1 } : Ms).pcUp else (bodyN c s).run (b :: bs)
theorem exec_body {c : Int} (h : ¬ (c = 221 ∨ c = 253)) (s : Ms) (xs : List Int) : execN xs c s = (bodyN c s).run xs := by
  cases xs with
  | nil => rw [execN, if_neg h]
  | cons b bs => rw [execN, if_neg h]
theorem exec_pre {c : Int} (h : c = 221 ∨ c = 253) {s t : Ms} (ht : t = s.toPlane (if c = 253 then 4 else 3)) (xs : List Int) : execN xs c s = match (fetchN t).run xs with | .ok ((b, u), ys) => execN ys b u | .error e => .error e := by
  subst ht
  cases xs with
  | nil => rw [execN, if_pos h]; rfl
  | cons b bs =>
    rw [execN, if_pos h]
    have e : (fetchN (s.toPlane (if c = 253 then 4 else 3))).run (b :: bs) = .ok ((b, ({ s.toPlane (if c = 253 then 4 else 3) with r := tickG s.r 1 } : Ms).pcUp), bs) := Tr.run_done _ _
    rw [e]
theorem fetch_len {s s' : Ms} {xs ys : List Int} {b : Int} (h : (fetchN s).run xs = .ok ((b, s'), ys)) : ys.length < xs.length := by
  cases xs with
  | nil => cases h
  | cons c cs =>
    have e : (fetchN s).run (c :: cs) = .ok ((c, ({ s with r := tickG s.r 1 } : Ms).pcUp), cs) := Tr.run_done _ _
    rw [e] at h
    cases h
    simp
section
variable {P : Program} {ops : Array Oper} {md : Region.Mode} {Q : Exit → Act → World → Prop} {S : World → Prop} {q n : Nat} {L : Array Bool → Act → World → Prop}
def wpAnyU (P : Program) (md : Region.Mode) (ops : Array Oper) (Q : Exit → Act → World → Prop) (S : World → Prop) (q n : Nat) (L : Array Bool → Act → World → Prop) : Nat → Array Bool → Act → World → Prop
  | 0, listed, a, w => L listed a w
  | f + 1, listed, a, w => Region.ready md ops listed ≠ [] ∧
    ∀ i ∈ Region.ready md ops listed, i < n ∧ wpOp P ops Q i (fun a' w' => ((listed.setIfInBounds i true).getD q false = false → S w') ∧ wpAnyU P md ops Q S q n L f (listed.setIfInBounds i true) a' w') a w
theorem wpAny_of_turn {g : Nat} (hL : ∀ listed a w, L listed a w → wpAny P md ops Q g listed a w) :
    ∀ (f : Nat) (listed : Array Bool) (a : Act) (w : World), wpAnyU P md ops Q S q n L f listed a w → wpAny P md ops Q (f + g) listed a w
  | 0, listed, a, w, h => by rw [Nat.zero_add]; exact hL _ _ _ h
  | f + 1, listed, a, w, h => by
    rw [show f + 1 + g = (f + g) + 1 by omega]
    exact ⟨fun h0 => absurd h0 h.1, fun i hi => wpOp_mono (fun a' w' h' => wpAny_of_turn hL f _ a' w' h'.2) (h.2 i hi).2⟩
theorem getD_set_same {listed : Array Bool} {i q : Nat} (h : i ≠ q) : (listed.setIfInBounds i true).getD q false = listed.getD q false := getD_set_ne false h
theorem wpAnyU_first {i : Nat} {oi : Oper} {v : Value} {T : World → Prop} (hi : ops[i]? = some oi) (hsel : ∀ (j : Nat) (o : Oper) cs b, ops[j]? = some o → o.op ≠ .select cs b)
    (hs : Region.sinkB md ops n = true) (hc : Region.chainB md ops n = true) (hn : n < ops.size) (hin : i < n) (hiq : i ≠ q)
    (hQ : ∀ c a w, Q (.panic c) (a.put oi.dst v) w → Q (.panic c) a w)
    (hdone : ∀ listed a w, L listed a w → ∀ j ∈ Region.ready md ops listed, n ≤ j)
    (hT : ∀ listed w, HeadInv md ops n listed → listed.getD i true = false → (listed.getD q false = false → S w) → T w) :
    ∀ (f : Nat) (listed : Array Bool) (a : Act) (w : World), HeadInv md ops n listed →
      (∀ j oj, ops[j]? = some oj → j ≠ i → listed.getD j true = false → (∀ e ∈ oj.after, Region.binds md e = true → e.on ≠ i) → oi.apart ops oj = true) →
      i ∈ Region.ready md ops listed → YieldsIf P ops T oi v a → (listed.getD q false = false → S w) →
      wpAnyU P md ops Q S q n L f (listed.setIfInBounds i true) (a.put oi.dst v) w → wpAnyU P md ops Q S q n L (f + 1) listed a w := by
  intro f
  induction f with
  | zero =>
    intro listed a w inv _ hr hy hS H
    refine ⟨fun h => (by rw [h] at hr; cases hr), fun j hj => ?_⟩
    have hjn : j < n := Nat.lt_of_not_le fun h => tail_waits hs hc hn inv _ i rfl hin (mem_ready.1 hr).1 j h hj
    refine ⟨hjn, ?_⟩
    by_cases hji : j = i
    · subst hji
      exact hy.wpOp hi (hT _ _ inv (mem_ready.1 hr).1 hS) ⟨fun h => hS (by rw [← getD_set_same hiq]; exact h), H⟩
    · have := hdone _ _ _ H j (ready_mono hj hji)
      omega
  | succ f ih =>
    intro listed a w inv hfree hr hy hS H
    refine ⟨fun h => (by rw [h] at hr; cases hr), fun j hj => ?_⟩
    have hjn : j < n := Nat.lt_of_not_le fun h => tail_waits hs hc hn inv _ i rfl hin (mem_ready.1 hr).1 j h hj
    refine ⟨hjn, ?_⟩
    by_cases hji : j = i
    · subst hji
      exact hy.wpOp hi (hT _ _ inv (mem_ready.1 hr).1 hS) ⟨fun h => hS (by rw [← getD_set_same hiq]; exact h), H⟩
    · have h1 := (H.2 j (ready_mono hj hji)).2
      obtain ⟨hjun, oj, hoj, hall⟩ := mem_ready.1 hj
      have hnot : ∀ e ∈ oj.after, Region.binds md e = true → e.on ≠ i := fun e he hb heq => by
        have h1 := hall e he hb
        rw [heq, getD_both (mem_ready.1 hr).1] at h1
        cases h1
      have h2 := wpOp_putIf hoj (hfree j oj hoj hji hjun hnot) (fun cs b => hsel i oi cs b hi) (fun cs b => hsel j oj cs b hoj) hQ hy h1
      have hfree' : ∀ k ok, ops[k]? = some ok → k ≠ i → (listed.setIfInBounds j true).getD k true = false →
          (∀ e ∈ ok.after, Region.binds md e = true → e.on ≠ i) → oi.apart ops ok = true := fun k ok hk hki hun hno => by
        refine hfree k ok hk hki ?_ hno
        by_cases hjk : j = k
        · subst hjk; exact hjun
        · rw [getD_set_ne true hjk] at hun; exact hun
      refine wpOp_mono (fun a' w' h3 => ?_) h2
      have hS' : (listed.setIfInBounds j true).getD q false = false → S w' := fun h => h3.2.1 (by
        rw [Array.setIfInBounds_comm _ _ (Ne.symm hji), getD_set_same hiq]
        exact h)
      refine ⟨hS', ih (listed.setIfInBounds j true) a' w' (inv.set hj hjn) hfree' (ready_mono hr (Ne.symm hji)) h3.1 hS' ?_⟩
      rw [Array.setIfInBounds_comm _ _ hji]
      exact h3.2.2
def turnT (P : Program) (ops : Array Oper) (Q : Exit → Act → World → Prop) (S : World → Prop) (q n f : Nat) (listed : Array Bool) (a : Act) (w : World) : Prop :=
  HeadInv .any ops n listed → wpAnyU P .any ops Q S q n (tailL P ops Q n) f listed a w
theorem turn_start {id : Nat} {a : Act} {w : World} (q n : Nat) (S : World → Prop) (hm : P.follows .mixedOrders = true) (hB : partB ops n = true) (hS : S w.drew)
    (h : ∀ w', w' = w.drew → S w' → turnT P ops Q S q n n (Array.replicate ops.size false) a w') : (Code.region id ops true).wp P Q a w := by
  simp only [partB, Bool.and_eq_true, decide_eq_true_eq] at hB
  obtain ⟨hsel, hn, hs, hc⟩ := hB
  have inv0 : HeadInv .any ops n (Array.replicate ops.size false) :=
    ⟨by simp, fun j oj _ hl => (by rw [getD_replicate_false] at hl; cases hl), fun t _ ht => getD_in (by simpa using ht) (getD_replicate_false _ _)⟩
  have H := h _ rfl hS inv0
  refine wp_region_any hm ?_
  have := wpAny_of_turn (g := ops.size - n) (fun listed a w hL => by
    have := wpAny_of_seq (md := .any) (Q' := Q) (ops.toList.drop n) n listed a w (fun j => by simp [List.getElem?_drop]) (by simpa using hL.1) hL.2
    simpa using this) _ _ _ _ H
  rwa [show n + (ops.size - n) = ops.size by omega] at this
theorem turn_take {i f : Nat} {listed : Array Bool} {a : Act} {w : World} {o : Oper} (d : Tmp) (v : Value) (hd : o.dst = some d) (ho : ops[i]? = some o) (hB : partB ops n = true) (hin : decide (i < n) = true) (hq : (decide (i ≠ q) && (decide (q < n) && Region.waitsFor .any ops q i)) = true) (hf : Region.free .any ops listed i = true)
    (hr : (Region.ready .any ops listed).contains i = true) (hQ : ∀ c a w, Q (.panic c) (a.put o.dst v) w → Q (.panic c) a w) (hw : Region.wanted o (yielded ops a.tmps) = true)
    (he : ∀ w, S w → (execOp a.eval o).run P w = .ok (.value v) w) (hS : S w)
    (h : turnT P ops Q S q n f (listed.setIfInBounds i true) (a.put (some d) v) w) : turnT P ops Q S q n (f + 1) listed a w := by
  simp only [partB, Bool.and_eq_true, decide_eq_true_eq] at hB hq
  obtain ⟨hsel, hn, hs, hc⟩ := hB
  intro inv
  have hr' : i ∈ Region.ready .any ops listed := by simpa using hr
  refine wpAnyU_first (T := S) ho (Region.noSelect_spec hsel) hs hc hn (of_decide_eq_true hin) hq.1 hQ (fun listed' a' w' hL => seqB_ready hL.1) ?_ f listed a w inv (Region.free_spec ho hf) hr' (.inl ⟨hw, he⟩) (fun _ => hS)
    (by rw [hd]; exact h (inv.set hr' (of_decide_eq_true hin)))
  intro listed w inv hun hSw
  obtain ⟨oq, hoq, e, hem, hb, hon⟩ := Region.waitsFor_spec hq.2.2
  refine hSw ?_
  cases hl : listed.getD q false with
  | false => rfl
  | true =>
    have := inv.closed q oq hoq hl e hem hb
    rw [hon, getD_both hun] at this
    cases this
theorem turn_free {i f : Nat} {listed : Array Bool} {a : Act} {w : World} {o : Oper} (d : Tmp) (v : Value) (hd : o.dst = some d) (ho : ops[i]? = some o) (hB : partB ops n = true) (hin : decide (i < n) = true) (hq : decide (i ≠ q) = true) (hf : Region.free .any ops listed i = true)
    (hr : (Region.ready .any ops listed).contains i = true) (hQ : ∀ c a w, Q (.panic c) (a.put o.dst v) w → Q (.panic c) a w) (hw : Region.wanted o (yielded ops a.tmps) = true)
    (he : ∀ w, (execOp a.eval o).run P w = .ok (.value v) w) (hS : listed.getD q false = false → S w)
    (h : turnT P ops Q S q n f (listed.setIfInBounds i true) (a.put (some d) v) w) : turnT P ops Q S q n (f + 1) listed a w := by
  simp only [partB, Bool.and_eq_true, decide_eq_true_eq] at hB hq
  obtain ⟨hsel, hn, hs, hc⟩ := hB
  intro inv
  have hr' : i ∈ Region.ready .any ops listed := by simpa using hr
  exact wpAnyU_first (T := fun _ => True) ho (Region.noSelect_spec hsel) hs hc hn (of_decide_eq_true hin) hq hQ (fun listed' a' w' hL => seqB_ready hL.1) (fun _ _ _ _ _ => trivial) f listed a w inv (Region.free_spec ho hf) hr' (.inl ⟨hw, fun w _ => he w⟩) hS
    (by rw [hd]; exact h (inv.set hr' (of_decide_eq_true hin)))
theorem turnO {a : Act} {w : World} {o : Oper} {i f : Nat} {listed : Array Bool} (V : Value) {g : FuncId} {args : Array Value} {N : World → Prop} (ho : ops[i]? = some o) (hr : Region.ready .any ops listed = [i]) (hin : decide (i < n) = true)
    (hw : Region.wanted o (yielded ops a.tmps) = true) (he : (execOp a.eval o).run P w = .ok (.enter g args) w) (hc : Calls P g args w fun e w' => e = .returned V ∧ N w') (hS : ∀ w', N w' → S w')
    (hK : ∀ w', N w' → turnT P ops Q S q n f (listed.setIfInBounds i true) (a.put o.dst V) w') : turnT P ops Q S q n (f + 1) listed a w := by
  intro inv
  have hr' : i ∈ Region.ready .any ops listed := by rw [hr]; simp
  refine ⟨by rw [hr]; simp, fun j hj => ?_⟩
  rw [hr] at hj
  have hji : j = i := by simpa using hj
  subst hji
  refine ⟨of_decide_eq_true hin, ?_⟩
  unfold wpOp
  simp only [ho, hw, if_true]
  refine .inl ?_
  unfold Oper.wp
  rw [he, Oper.upon_enter]
  refine hc.mono fun e w' ⟨h1, h2⟩ => ?_
  subst h1
  exact ⟨fun _ => hS w' h2, hK w' h2 (inv.set hr' (of_decide_eq_true hin))⟩
theorem turn_do {a : Act} {w w' : World} {o : Oper} {f : Nat} {listed : Array Bool} (hd : o.dst = none) (ho : ops[q]? = some o) (hr : Region.ready .any ops listed = [q]) (hin : decide (q < n) = true)
    (hw : Region.wanted o (yielded ops a.tmps) = true) (he : (execOp a.eval o).run P w = .ok .skip w')
    (hK : turnT P ops Q S q n f (listed.setIfInBounds q true) (a.put none undef) w') : turnT P ops Q S q n (f + 1) listed a w := by
  intro inv
  have hr' : q ∈ Region.ready .any ops listed := by rw [hr]; simp
  refine ⟨by rw [hr]; simp, fun j hj => ?_⟩
  rw [hr] at hj
  have hji : j = q := by simpa using hj
  subst hji
  refine ⟨of_decide_eq_true hin, ?_⟩
  unfold wpOp
  simp only [ho, hw, if_true]
  refine .inl ?_
  unfold Oper.wp
  rw [he, Oper.upon_skip, hd]
  refine ⟨fun h => ?_, hK (inv.set hr' (of_decide_eq_true hin))⟩
  have hlt : j < listed.size := by rw [inv.size]; exact (Array.getElem?_eq_some_iff.1 ho).1
  simp [hlt] at h
theorem turn_end {listed : Array Bool} {a : Act} {w : World} (hB : Region.seqB .any ops (ops.size - n) n listed = true) (h : WL P ops Q (ops.toList.drop n) a w) : turnT P ops Q S q n 0 listed a w := fun _ => ⟨hB, h.h⟩
end
end Go.Proofs.YtibmpaeaicpbcaaGreatDoor
