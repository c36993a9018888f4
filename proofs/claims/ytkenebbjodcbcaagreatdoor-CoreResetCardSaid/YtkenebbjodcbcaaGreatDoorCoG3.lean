/- Contracts and facts that the claim's proof wants (several texts in one). -/
import Derived.WalkKit
import Derived.Below
import Derived.RangeFuncBox
import Derived.Deep.MidRow
import Derived.Laws.NewBlocks
import Derived.Laws.Tables
import Derived.Lib.Hide
import Derived.Test.YtkenebbjodcbcaaGreatDoorCoG1
import Derived.Test.YtkenebbjodcbcaaGreatDoorCoG2
namespace Go.Proofs.YtkenebbjodcbcaaGreatDoor
open Go.RowKit
set_option linter.unusedVariables false
set_option linter.unusedSimpArgs false
set_option maxRecDepth 20000
set_option maxHeartbeats 20000000
section
variable {P : Program} {ops : Array Oper} {md : Region.Mode} {Q : Exit → Act → World → Prop} {S : World → Prop} {q n : Nat} {L : Array Bool → Act → World → Prop}
def wpAnyU (P : Program) (md : Region.Mode) (ops : Array Oper) (Q : Exit → Act → World → Prop) (S : World → Prop) (q n : Nat) (L : Array Bool → Act → World → Prop) : Nat → Array Bool → Act → World → Prop
  | 0, listed, a, w => L listed a w
  | f + 1, listed, a, w => Region.ready md ops listed ≠ [] ∧
    ∀ i ∈ Region.ready md ops listed, i < n ∧ wpOp P ops Q i (fun a' w' => ((listed.setIfInBounds i true).getD q false = false → S w') ∧ wpAnyU P md ops Q S q n L f (listed.setIfInBounds i true) a' w') a w
theorem wpAny_of_turn {g : Nat} (hL : ∀ listed a w, L listed a w → wpAny P md ops Q g listed a w) :
    ∀ (f : Nat) (listed : Array Bool) (a : Act) (w : World), wpAnyU P md ops Q S q n L f listed a w → wpAny P md ops Q (f + g) listed a w
  | 0, listed, a, w, h => by rw [Nat.zero_add]; exact hL _ _ _ h
  | f + 1, listed, a, w, h => by
    rw [show f + 1 + g = (f + g) + 1 by omega]
    exact ⟨fun h0 => absurd h0 h.1, fun i hi => wpOp_mono (fun a' w' h' => wpAny_of_turn hL f _ a' w' h'.2) (h.2 i hi).2⟩
theorem getD_set_same {listed : Array Bool} {i q : Nat} (h : i ≠ q) : (listed.setIfInBounds i true).getD q false = listed.getD q false := getD_set_ne false h
theorem wpAnyU_first {i : Nat} {oi : Oper} {v : Value} {T : World → Prop} (hi : ops[i]? = some oi) (hsel : ∀ (j : Nat) (o : Oper) cs b, ops[j]? = some o → o.op ≠ .select cs b)
    (hs : Region.sinkB md ops n = true) (hc : Region.chainB md ops n = true) (hn : n < ops.size) (hin : i < n) (hiq : i ≠ q)
    (hQ : ∀ c a w, Q (.panic c) (a.put oi.dst v) w → Q (.panic c) a w)
    (hdone : ∀ listed a w, L listed a w → ∀ j ∈ Region.ready md ops listed, n ≤ j)
    (hT : ∀ listed w, HeadInv md ops n listed → listed.getD i true = false → (listed.getD q false = false → S w) → T w) :
    ∀ (f : Nat) (listed : Array Bool) (a : Act) (w : World), HeadInv md ops n listed →
      (∀ j oj, ops[j]? = some oj → j ≠ i → listed.getD j true = false → (∀ e ∈ oj.after, Region.binds md e = true → e.on ≠ i) → oi.apart ops oj = true) →
      i ∈ Region.ready md ops listed → YieldsIf P ops T oi v a → (listed.getD q false = false → S w) →
      wpAnyU P md ops Q S q n L f (listed.setIfInBounds i true) (a.put oi.dst v) w → wpAnyU P md ops Q S q n L (f + 1) listed a w := by
  intro f
  induction f with
  | zero =>
    intro listed a w inv _ hr hy hS H
    refine ⟨fun h => (by rw [h] at hr; cases hr), fun j hj => ?_⟩
    have hjn : j < n := Nat.lt_of_not_le fun h => tail_waits hs hc hn inv _ i rfl hin (mem_ready.1 hr).1 j h hj
    refine ⟨hjn, ?_⟩
    by_cases hji : j = i
    · subst hji
      exact hy.wpOp hi (hT _ _ inv (mem_ready.1 hr).1 hS) ⟨fun h => hS (by rw [← getD_set_same hiq]; exact h), H⟩
    · have := hdone _ _ _ H j (ready_mono hj hji)
      omega
  | succ f ih =>
    intro listed a w inv hfree hr hy hS H
    refine ⟨fun h => (by rw [h] at hr; cases hr), fun j hj => ?_⟩
    have hjn : j < n := Nat.lt_of_not_le fun h => tail_waits hs hc hn inv _ i rfl hin (mem_ready.1 hr).1 j h hj
    refine ⟨hjn, ?_⟩
    by_cases hji : j = i
    · subst hji
      exact hy.wpOp hi (hT _ _ inv (mem_ready.1 hr).1 hS) ⟨fun h => hS (by rw [← getD_set_same hiq]; exact h), H⟩
    · have h1 := (H.2 j (ready_mono hj hji)).2
      obtain ⟨hjun, oj, hoj, hall⟩ := mem_ready.1 hj
      have hnot : ∀ e ∈ oj.after, Region.binds md e = true → e.on ≠ i := fun e he hb heq => by
        have h1 := hall e he hb
        rw [heq, getD_both (mem_ready.1 hr).1] at h1
        cases h1
      have h2 := wpOp_putIf hoj (hfree j oj hoj hji hjun hnot) (fun cs b => hsel i oi cs b hi) (fun cs b => hsel j oj cs b hoj) hQ hy h1
      have hfree' : ∀ k ok, ops[k]? = some ok → k ≠ i → (listed.setIfInBounds j true).getD k true = false →
          (∀ e ∈ ok.after, Region.binds md e = true → e.on ≠ i) → oi.apart ops ok = true := fun k ok hk hki hun hno => by
        refine hfree k ok hk hki ?_ hno
        by_cases hjk : j = k
        · subst hjk; exact hjun
        · rw [getD_set_ne true hjk] at hun; exact hun
      refine wpOp_mono (fun a' w' h3 => ?_) h2
      have hS' : (listed.setIfInBounds j true).getD q false = false → S w' := fun h => h3.2.1 (by
        rw [Array.setIfInBounds_comm _ _ (Ne.symm hji), getD_set_same hiq]
        exact h)
      refine ⟨hS', ih (listed.setIfInBounds j true) a' w' (inv.set hj hjn) hfree' (ready_mono hr (Ne.symm hji)) h3.1 hS' ?_⟩
      rw [Array.setIfInBounds_comm _ _ hji]
      exact h3.2.2
def turnT (P : Program) (ops : Array Oper) (Q : Exit → Act → World → Prop) (S : World → Prop) (q n f : Nat) (listed : Array Bool) (a : Act) (w : World) : Prop :=
  HeadInv .any ops n listed → wpAnyU P .any ops Q S q n (tailL P ops Q n) f listed a w
theorem turn_start {id : Nat} {a : Act} {w : World} (q n : Nat) (S : World → Prop) (hm : P.follows .mixedOrders = true) (hB : partB ops n = true) (hS : S w.drew)
    (h : ∀ w', w' = w.drew → S w' → turnT P ops Q S q n n (Array.replicate ops.size false) a w') : (Code.region id ops true).wp P Q a w := by
  simp only [partB, Bool.and_eq_true, decide_eq_true_eq] at hB
  obtain ⟨hsel, hn, hs, hc⟩ := hB
  have inv0 : HeadInv .any ops n (Array.replicate ops.size false) :=
    ⟨by simp, fun j oj _ hl => (by rw [getD_replicate_false] at hl; cases hl), fun t _ ht => getD_in (by simpa using ht) (getD_replicate_false _ _)⟩
  have H := h _ rfl hS inv0
  refine wp_region_any hm ?_
  have := wpAny_of_turn (g := ops.size - n) (fun listed a w hL => by
    have := wpAny_of_seq (md := .any) (Q' := Q) (ops.toList.drop n) n listed a w (fun j => by simp [List.getElem?_drop]) (by simpa using hL.1) hL.2
    simpa using this) _ _ _ _ H
  rwa [show n + (ops.size - n) = ops.size by omega] at this
theorem turn_take {i f : Nat} {listed : Array Bool} {a : Act} {w : World} {o : Oper} (d : Tmp) (v : Value) (hd : o.dst = some d) (ho : ops[i]? = some o) (hB : partB ops n = true) (hin : decide (i < n) = true) (hq : (decide (i ≠ q) && (decide (q < n) && Region.waitsFor .any ops q i)) = true) (hf : Region.free .any ops listed i = true)
    (hr : (Region.ready .any ops listed).contains i = true) (hQ : ∀ c a w, Q (.panic c) (a.put o.dst v) w → Q (.panic c) a w) (hw : Region.wanted o (yielded ops a.tmps) = true)
    (he : ∀ w, S w → (execOp a.eval o).run P w = .ok (.value v) w) (hS : S w)
    (h : turnT P ops Q S q n f (listed.setIfInBounds i true) (a.put (some d) v) w) : turnT P ops Q S q n (f + 1) listed a w := by
  simp only [partB, Bool.and_eq_true, decide_eq_true_eq] at hB hq
  obtain ⟨hsel, hn, hs, hc⟩ := hB
  intro inv
  have hr' : i ∈ Region.ready .any ops listed := by simpa using hr
  refine wpAnyU_first (T := S) ho (Region.noSelect_spec hsel) hs hc hn (of_decide_eq_true hin) hq.1 hQ (fun listed' a' w' hL => seqB_ready hL.1) ?_ f listed a w inv (Region.free_spec ho hf) hr' (.inl ⟨hw, he⟩) (fun _ => hS)
    (by rw [hd]; exact h (inv.set hr' (of_decide_eq_true hin)))
  intro listed w inv hun hSw
  obtain ⟨oq, hoq, e, hem, hb, hon⟩ := Region.waitsFor_spec hq.2.2
  refine hSw ?_
  cases hl : listed.getD q false with
  | false => rfl
  | true =>
    have := inv.closed q oq hoq hl e hem hb
    rw [hon, getD_both hun] at this
    cases this
theorem turn_free {i f : Nat} {listed : Array Bool} {a : Act} {w : World} {o : Oper} (d : Tmp) (v : Value) (hd : o.dst = some d) (ho : ops[i]? = some o) (hB : partB ops n = true) (hin : decide (i < n) = true) (hq : decide (i ≠ q) = true) (hf : Region.free .any ops listed i = true)
    (hr : (Region.ready .any ops listed).contains i = true) (hQ : ∀ c a w, Q (.panic c) (a.put o.dst v) w → Q (.panic c) a w) (hw : Region.wanted o (yielded ops a.tmps) = true)
    (he : ∀ w, (execOp a.eval o).run P w = .ok (.value v) w) (hS : listed.getD q false = false → S w)
    (h : turnT P ops Q S q n f (listed.setIfInBounds i true) (a.put (some d) v) w) : turnT P ops Q S q n (f + 1) listed a w := by
  simp only [partB, Bool.and_eq_true, decide_eq_true_eq] at hB hq
  obtain ⟨hsel, hn, hs, hc⟩ := hB
  intro inv
  have hr' : i ∈ Region.ready .any ops listed := by simpa using hr
  exact wpAnyU_first (T := fun _ => True) ho (Region.noSelect_spec hsel) hs hc hn (of_decide_eq_true hin) hq hQ (fun listed' a' w' hL => seqB_ready hL.1) (fun _ _ _ _ _ => trivial) f listed a w inv (Region.free_spec ho hf) hr' (.inl ⟨hw, fun w _ => he w⟩) hS
    (by rw [hd]; exact h (inv.set hr' (of_decide_eq_true hin)))
theorem turnO {a : Act} {w : World} {o : Oper} {i f : Nat} {listed : Array Bool} (V : Value) {g : FuncId} {args : Array Value} {N : World → Prop} (ho : ops[i]? = some o) (hr : Region.ready .any ops listed = [i]) (hin : decide (i < n) = true)
    (hw : Region.wanted o (yielded ops a.tmps) = true) (he : (execOp a.eval o).run P w = .ok (.enter g args) w) (hc : Calls P g args w fun e w' => e = .returned V ∧ N w') (hS : ∀ w', N w' → S w')
    (hK : ∀ w', N w' → turnT P ops Q S q n f (listed.setIfInBounds i true) (a.put o.dst V) w') : turnT P ops Q S q n (f + 1) listed a w := by
  intro inv
  have hr' : i ∈ Region.ready .any ops listed := by rw [hr]; simp
  refine ⟨by rw [hr]; simp, fun j hj => ?_⟩
  rw [hr] at hj
  have hji : j = i := by simpa using hj
  subst hji
  refine ⟨of_decide_eq_true hin, ?_⟩
  unfold wpOp
  simp only [ho, hw, if_true]
  refine .inl ?_
  unfold Oper.wp
  rw [he, Oper.upon_enter]
  refine hc.mono fun e w' ⟨h1, h2⟩ => ?_
  subst h1
  exact ⟨fun _ => hS w' h2, hK w' h2 (inv.set hr' (of_decide_eq_true hin))⟩
theorem turn_do {a : Act} {w w' : World} {o : Oper} {f : Nat} {listed : Array Bool} (hd : o.dst = none) (ho : ops[q]? = some o) (hr : Region.ready .any ops listed = [q]) (hin : decide (q < n) = true)
    (hw : Region.wanted o (yielded ops a.tmps) = true) (he : (execOp a.eval o).run P w = .ok .skip w')
    (hK : turnT P ops Q S q n f (listed.setIfInBounds q true) (a.put none undef) w') : turnT P ops Q S q n (f + 1) listed a w := by
  intro inv
  have hr' : q ∈ Region.ready .any ops listed := by rw [hr]; simp
  refine ⟨by rw [hr]; simp, fun j hj => ?_⟩
  rw [hr] at hj
  have hji : j = q := by simpa using hj
  subst hji
  refine ⟨of_decide_eq_true hin, ?_⟩
  unfold wpOp
  simp only [ho, hw, if_true]
  refine .inl ?_
  unfold Oper.wp
  rw [he, Oper.upon_skip, hd]
  refine ⟨fun h => ?_, hK (inv.set hr' (of_decide_eq_true hin))⟩
  have hlt : j < listed.size := by rw [inv.size]; exact (Array.getElem?_eq_some_iff.1 ho).1
  simp [hlt] at h
theorem turn_end {listed : Array Bool} {a : Act} {w : World} (hB : Region.seqB .any ops (ops.size - n) n listed = true) (h : WL P ops Q (ops.toList.drop n) a w) : turnT P ops Q S q n 0 listed a w := fun _ => ⟨hB, h.h⟩
end
theorem add_block (a : Addr) (n : Nat) : (a.add n).block = a.block := by unfold Addr.add; split <;> rfl
theorem add_twice (a : Addr) (i j : Nat) : (a.add i).add j = a.add (i + j) := by
  unfold Addr.add
  by_cases hi : i = 0 <;> by_cases hj : j = 0 <;> simp [hi, hj, Nat.add_assoc]
def BytesIn (w : World) (B : Nat) (A : Option Addr) (xs : List Int) : Prop :=
  ∀ j x, xs[j]? = some x → ∃ ad, A = some ad ∧ ad.block < B ∧ w.cell? (ad.add j) = some (.int .u8 x)
theorem BytesIn.nil (w : World) (B : Nat) (A : Option Addr) : BytesIn w B A [] := fun j x h => by simp at h
theorem BytesIn.keep {w w' : World} {B : Nat} {A : Option Addr} {xs : List Int} (h : BytesIn w B A xs) (k : ∀ b, b < B → w'.heap[b]? = w.heap[b]?) : BytesIn w' B A xs := fun j x hx => by
  obtain ⟨ad, e, hb, hc⟩ := h j x hx
  exact ⟨ad, e, hb, (World.cell?_of_block (by rw [add_block]; exact k _ hb)).trans hc⟩
theorem BytesIn.more {w : World} {B B' : Nat} {A : Option Addr} {xs : List Int} (h : BytesIn w B A xs) (k : B ≤ B') : BytesIn w B' A xs := fun j x hx => by
  obtain ⟨ad, e, hb, hc⟩ := h j x hx
  exact ⟨ad, e, by omega, hc⟩
theorem BytesIn.below {w w' : World} {B : Nat} {A : Option Addr} {xs : List Int} (h : BytesIn w B A xs) (k : Below B w w') : BytesIn w' B A xs := h.keep fun b hb => k.block b hb
theorem BytesIn.drop {w : World} {B : Nat} {A : Option Addr} {xs : List Int} (h : BytesIn w B A xs) {k cap : Nat} (hk : k ≤ xs.length) (hc : xs.length ≤ cap) :
    BytesIn w B (if cap = k then A else A.map (·.add k)) (xs.drop k) := fun j x hx => by
  rw [List.getElem?_drop] at hx
  obtain ⟨ad, rfl, hb, hcell⟩ := h _ x hx
  have hl : k + j < xs.length := (List.getElem?_eq_some_iff.1 hx).1
  rw [if_neg (by omega)]
  exact ⟨ad.add k, rfl, by rw [add_block]; exact hb, by rw [add_twice]; exact hcell⟩
theorem BytesIn.take {w : World} {B : Nat} {A : Option Addr} {xs : List Int} (h : BytesIn w B A xs) (k : Nat) : BytesIn w B A (xs.take k) := fun j x hx => by
  rw [List.getElem?_take] at hx
  split at hx
  · exact h j x hx
  · cases hx
theorem BytesIn.at_ {w : World} {B : Nat} {A : Option Addr} {xs : List Int} (h : BytesIn w B A xs) {k : Nat} (hk : k < xs.length) : ∃ ad, A = some ad ∧ ad.block < B ∧ w.cell? (ad.add k) = some (.int .u8 (xs.getD k 0)) := by
  obtain ⟨ad, e, hb, hc⟩ := h k _ (List.getElem?_eq_getElem hk)
  refine ⟨ad, e, hb, ?_⟩
  rw [hc, List.getD_eq_getElem?_getD, List.getElem?_eq_getElem hk]
  rfl
structure Besides (A S : Nat) (w w' : World) : Prop where
  os : w'.os = w.os
  tape : w'.tape = w.tape
  output : w'.output = w.output
  size : w.heap.size ≤ w'.heap.size
  block : ∀ b, b < w.heap.size → b ≠ A → b ≠ S → w'.heap[b]? = w.heap[b]?
theorem Besides.refl (A S : Nat) (w : World) : Besides A S w w := ⟨rfl, rfl, rfl, Nat.le_refl _, fun _ _ _ _ => rfl⟩
theorem Besides.trans {A S : Nat} {a b c : World} (h : Besides A S a b) (k : Besides A S b c) : Besides A S a c :=
  ⟨k.os.trans h.os, k.tape.trans h.tape, k.output.trans h.output, Nat.le_trans h.size k.size, fun i hi n1 n2 => (k.block i (Nat.lt_of_lt_of_le hi h.size) n1 n2).trans (h.block i hi n1 n2)⟩
theorem Besides.of_below {A S : Nat} {w w' : World} (h : Below w.heap.size w w') : Besides A S w w' := ⟨h.os, h.tape, h.output, h.size, fun b hb _ _ => h.block b hb⟩
theorem Besides.alloc {A S : Nat} {a w : World} (h : Besides A S a w) (o : Obj) : Besides A S a (w.alloc o) :=
  h.trans (.of_below (Below.alloc (Below.refl _ _) (Nat.le_refl _) o))
theorem Besides.setCell {A S : Nat} {a w : World} (h : Besides A S a w) {p : Addr} (hp : p.block = A ∨ p.block = S ∨ a.heap.size ≤ p.block) (u : Value) : Besides A S a (w.setCell p u) :=
  ⟨h.os, h.tape, h.output, by simpa [World.setCell] using h.size, fun b hb n1 n2 => (Below.heap_setCell w p u b (by rcases hp with e | e | e <;> omega)).trans (h.block b hb n1 n2)⟩
theorem Besides.below {A S B : Nat} {w w' : World} (h : Besides A S w w') (hA : B ≤ A) (hS : B ≤ S) (hB : B ≤ w.heap.size) : Below B w w' :=
  ⟨h.os, h.tape, h.output, h.size, fun b hb => h.block b (by omega) (by omega) (by omega)⟩
def Row (w : World) (g : Nat) (t : TypeId) (cs : Array Value) : Prop := w.heap[g]? = some (.cells cs t (0, 0))
theorem Row.lt {w : World} {g : Nat} {t : TypeId} {cs : Array Value} (h : Row w g t cs) : g < w.heap.size := (Array.getElem?_eq_some_iff.1 h).1
theorem Row.cell {w : World} {g : Nat} {t : TypeId} {cs : Array Value} (h : Row w g t cs) (i : Nat) : w.cell? ⟨g, i, none⟩ = cs[i]? := by simp [World.cell?, show w.heap[g]? = _ from h]
theorem Row.frozen {w : World} {g : Nat} {t : TypeId} {cs : Array Value} (h : Row w g t cs) (i : Nat) : w.frozen? ⟨g, i, none⟩ = false := by simp [World.frozen?, show w.heap[g]? = _ from h]
theorem Row.new (w : World) (t : TypeId) (cs : Array Value) : Row (w.alloc (.cells cs t)) w.heap.size t cs := World.alloc_heap_new w _
theorem Row.of {w w' : World} {g : Nat} {t : TypeId} {cs : Array Value} (h : Row w g t cs) (k : w'.heap[g]? = w.heap[g]?) : Row w' g t cs := k.trans h
theorem Row.alloc {w : World} {g : Nat} {t : TypeId} {cs : Array Value} (h : Row w g t cs) (o : Obj) : Row (w.alloc o) g t cs := (Below.heap_alloc w o g h.lt).trans h
theorem Row.set {w : World} {g : Nat} {t : TypeId} {cs : Array Value} (h : Row w g t cs) (i : Nat) (u : Value) : Row (w.setCell ⟨g, i, none⟩ u) g t (cs.setIfInBounds i u) := by
  unfold Row at h ⊢
  simp [World.setCell, Array.getElem?_modify, h]
theorem Row.far {w : World} {g : Nat} {t : TypeId} {cs : Array Value} (h : Row w g t cs) {p : Addr} (hp : g ≠ p.block) (u : Value) : Row (w.setCell p u) g t cs := (Below.heap_setCell w p u g hp).trans h
theorem Row.besides {A S : Nat} {w w' : World} {g : Nat} {t : TypeId} {cs : Array Value} (h : Row w g t cs) (k : Besides A S w w') (hA : g ≠ A) (hS : g ≠ S) : Row w' g t cs := (k.block g h.lt hA hS).trans h
theorem Row.below {B : Nat} {w w' : World} {g : Nat} {t : TypeId} {cs : Array Value} (h : Row w g t cs) (k : Below B w w') (hB : g < B) : Row w' g t cs := (k.block g hB).trans h
def ovr (cs : Array Value) : Nat → List Value → Array Value
  | _, [] => cs
  | o, v :: r => ovr (cs.setIfInBounds o v) (o + 1) r
theorem ovr_get : ∀ (vs : List Value) (o : Nat) (cs : Array Value) (i : Nat), (ovr cs o vs)[i]? = if o ≤ i ∧ i < o + vs.length ∧ i < cs.size then vs[i - o]? else cs[i]?
  | [], o, cs, i => by
    rw [if_neg (by rintro ⟨h1, h2, h3⟩; simp at h2; omega)]
    rfl
  | v :: r, o, cs, i => by
    rw [ovr, ovr_get r (o + 1) (cs.setIfInBounds o v) i, List.length_cons, Array.size_setIfInBounds, Array.getElem?_setIfInBounds]
    by_cases h1 : o = i
    · subst h1
      rw [if_neg (by omega), if_pos rfl]
      by_cases h3 : o < cs.size
      · rw [if_pos h3, if_pos (by omega), Nat.sub_self]
        rfl
      · rw [if_neg h3, if_neg (by omega), Array.getElem?_eq_none (by omega)]
    · rw [if_neg h1]
      by_cases h2 : o + 1 ≤ i ∧ i < o + 1 + r.length ∧ i < cs.size
      · rw [if_pos h2, if_pos (by omega), show i - o = (i - (o + 1)) + 1 by omega, List.getElem?_cons_succ]
      · rw [if_neg h2, if_neg (by omega)]
theorem ovr_all (cs vs : Array Value) (h : cs.size = vs.size) : ovr cs 0 vs.toList = vs := by
  apply Array.ext_getElem?
  intro i
  rw [ovr_get, Nat.zero_add, Array.length_toList, Nat.sub_zero]
  by_cases hi : i < vs.size
  · rw [if_pos ⟨Nat.zero_le _, hi, by omega⟩]
    simp
  · rw [if_neg (by omega), Array.getElem?_eq_none (by omega), Array.getElem?_eq_none (by omega)]
theorem setCells_top (w : World) (t : TypeId) : ∀ (vs : List Value) (o : Nat) (cs : Array Value), (w.alloc (.cells cs t)).setCells w.heap.size o vs = w.alloc (.cells (ovr cs o vs) t)
  | [], _, _ => rfl
  | v :: r, o, cs => by
    rw [World.setCells, World.setCell_alloc_new, setCells_top w t r (o + 1)]
    rfl
theorem setCells_new (w : World) (t : TypeId) (cs vs : Array Value) (h : cs.size = vs.size) : (w.alloc (.cells cs t)).setCells w.heap.size 0 vs.toList = w.alloc (.cells vs t) := by
  rw [setCells_top, ovr_all cs vs h]
theorem Row.range {w : World} {b : Nat} {cs : Array Value} {t : TypeId} (h : Row w b t cs) : w.rangeAt b 0 cs.toList := fun j v hv => by
  rw [Nat.zero_add, h.cell j]
  simpa using hv
theorem Row.there {w : World} {b : Nat} {cs : Array Value} {t : TypeId} (h : Row w b t cs) : w.there b 0 cs.size := fun j hj => by
  rw [Nat.zero_add, h.cell j]
  exact ⟨by simp [hj], h.frozen j⟩
section
variable {P : Program}
theorem loadVar_row {t u : TypeId} {w : World} {g : Nat} {cs : Array Value} {d : TypeDesc} (h : Row w g u cs) (hu : P.underlying t = some d) (hd : d.isRow = true) (hi : (P.info? t).map (·.size) = some cs.size) :
    (loadVar t ⟨g, 0, none⟩).run P w = .ok (.agg cs) w :=
  run_loadVar_mid w g 0 t cs.toList d h.range hu hd (by simpa using hi)
theorem wpList_store_top {ops : Array Oper} {rest : List Oper} {op : Oper} {a : Act} {Q : Exit → Act → World → Prop} (hgd : op.guard = none) (ty : TypeId) (x y : Operand) (ho : op.op = .store ty x y)
    (w : World) (g : Nat) (u : TypeId) (cs vs : Array Value) (hx : a.eval x = .pointer (some ⟨g, 0, none⟩)) (hy : a.eval y = .agg vs) (hg : g = w.heap.size) (h : cs.size = vs.size) (hi : (P.info? ty).map (·.size) = some vs.size) (h1 : vs.toList.all (·.oneCell') = true)
    (hK : wpList P ops Q rest (a.put op.dst undef) (w.alloc (.cells vs u))) : wpList P ops Q (op :: rest) a (w.alloc (.cells cs u)) := by
  subst hg
  refine wpList_store_mid hgd ty x y ho w.heap.size 0 vs hx hy (by rw [← h]; exact (Row.new w u cs).there) hi (by rw [← Array.all_toList]; exact h1) ?_
  rw [setCells_new _ _ _ _ h]
  exact hK
theorem wpList_load_row {ops : Array Oper} {rest : List Oper} {op : Oper} {a : Act} {w : World} {Q : Exit → Act → World → Prop} (hgd : op.guard = none) (ty : TypeId) (x : Operand) (ho : op.op = .load ty x)
    (g : Nat) (u : TypeId) (cs : Array Value) (hx : a.eval x = .pointer (some ⟨g, 0, none⟩)) (h : Row w g u cs) (d : TypeDesc) (hu : P.underlying ty = some d) (hd : d.isRow = true) (hi : (P.info? ty).map (·.size) = some cs.size)
    (hK : wpList P ops Q rest (a.put op.dst (.agg cs)) w) : wpList P ops Q (op :: rest) a w :=
  wpList_load_mid hgd ty x ho g 0 hx cs.toList d h.range hu hd (by simpa using hi) hK
theorem results_row {fn : Func} {t : Tmp} {ty u : TypeId} (h : fn.results = #[.cell t ty]) {tmps : Array Value} {w : World} {g : Nat} {cs : Array Value} (ht : tmps.getD t undef = .pointer (some ⟨g, 0, none⟩)) (hr : Row w g u cs)
    (d : TypeDesc) (hu : P.underlying ty = some d) (hd : d.isRow = true) (hi : (P.info? ty).map (·.size) = some cs.size) : (results fn tmps).run P w = .ok (.agg cs) w := by
  have ht' : tmps[t]?.getD undef = .pointer (some ⟨g, 0, none⟩) := by simpa using ht
  simp [results, h, ht', asAddr, loadVar_row hr hu hd hi]
end
theorem Below.setCellsAll {n : Nat} {w w' : World} (h : Below n w w') {b : Nat} (hb : n ≤ b) : ∀ (vs : List Value) (o : Nat), Below n w (w'.setCells b o vs) := by
  intro vs
  induction vs generalizing w' with
  | nil => intro o; exact h
  | cons v r ih => intro o; exact ih (Go.RowKit.Below.setCell h hb _) (o + 1)
theorem Row.setOver {w : World} {g : Nat} {t : TypeId} : ∀ (vs : List Value) (o : Nat) {w : World} {cs : Array Value}, Row w g t cs → Row (w.setCells g o vs) g t (ovr cs o vs)
  | [], _, _, _, h => h
  | v :: r, o, _, _, h => Row.setOver (w := w) r (o + 1) (h.set o v)
theorem Row.setAll {w : World} {g : Nat} {t : TypeId} {cs vs : Array Value} (h : Row w g t cs) (hs : cs.size = vs.size) : Row (w.setCells g 0 vs.toList) g t vs := by
  have := Row.setOver (w := w) vs.toList 0 h
  rwa [ovr_all cs vs hs] at this
theorem Row.setFar {g b : Nat} {t : TypeId} {cs : Array Value} (hb : g ≠ b) : ∀ (vs : List Value) (o : Nat) {w : World}, Row w g t cs → Row (w.setCells b o vs) g t cs
  | [], _, _, h => h
  | v :: r, o, _, h => Row.setFar hb r (o + 1) (h.far (p := ⟨b, o, none⟩) hb v)
section
variable {P : Program}
theorem wpList_store_row {ops : Array Oper} {rest : List Oper} {op : Oper} {a : Act} {w : World} {Q : Exit → Act → World → Prop} (hgd : op.guard = none) (ty : TypeId) (x y : Operand) (ho : op.op = .store ty x y)
    (g : Nat) (u : TypeId) (cs vs : Array Value) (hx : a.eval x = .pointer (some ⟨g, 0, none⟩)) (hy : a.eval y = .agg vs) (hr : Row w g u cs) (h : cs.size = vs.size) (hi : (P.info? ty).map (·.size) = some vs.size) (h1 : vs.toList.all (·.oneCell') = true)
    (hK : wpList P ops Q rest (a.put op.dst undef) (w.setCells g 0 vs.toList)) : wpList P ops Q (op :: rest) a w :=
  wpList_store_mid hgd ty x y ho g 0 vs hx hy (by rw [← h]; exact hr.there) hi (by rw [← Array.all_toList]; exact h1) hK
end
section
variable {P : Program} {a : Act} {o : Oper} {x y : Operand} {V W R : Value}
theorem heMove (ho : o.op = .move x ∨ o.op = .assign x) (hx : a.eval x = V) (w : World) : (execOp a.eval o).run P w = .ok (.value V) w := by
  unfold execOp
  rcases ho with ho | ho <;> simp only [ho, hx, Sem.run_pure]
theorem heNil {ad : Addr} (ho : o.op = .nilCheck x) (hx : a.eval x = .pointer (some ad)) (w : World) : (execOp a.eval o).run P w = .ok (.value (.pointer (some ad))) w := by
  unfold execOp
  simp only [ho, hx, Sem.run_pure]
theorem heField {t : TypeId} {f : Nat} (ho : o.op = .fieldAddr t x f) (hx : a.eval x = V) (hf : ∀ w, (Instr.fieldAt t V f).run P w = .ok R w) (w : World) : (execOp a.eval o).run P w = .ok (.value R) w := by
  unfold execOp
  simp only [ho, hx, Sem.run_bind, Sem.run_pure, hf, Result.andThen_ok]
theorem heLoad {t : TypeId} {ad : Addr} {w : World} (ho : o.op = .load t x) (hx : a.eval x = .pointer (some ad)) (hl : (Instr.loadAt t (.pointer (some ad))).run P w = .ok V w) : (execOp a.eval o).run P w = .ok (.value V) w := by
  unfold execOp
  simp only [ho, hx, Sem.run_bind, Sem.run_pure, hl, Result.andThen_ok]
theorem heStore {t : TypeId} {ad : Addr} {w w' : World} (ho : o.op = .store t x y) (hx : a.eval x = .pointer (some ad)) (hy : a.eval y = V) (hl : (Instr.storeAt t (.pointer (some ad)) V).run P w = .ok () w') : (execOp a.eval o).run P w = .ok .skip w' := by
  unfold execOp
  simp only [ho, hx, hy, Sem.run_bind, Sem.run_pure, hl, Result.andThen_ok]
theorem heBin {op : BinOp} {t r : TypeId} (ho : o.op = .binOp op t x y r) (hx : a.eval x = V) (hy : a.eval y = W) (hg : ∀ w, (eqGuard op t x y V W).run P w = .ok () w) (hb : ∀ w, (binOp op t V W).run P w = .ok R w) (w : World) : (execOp a.eval o).run P w = .ok (.value R) w := by
  unfold execOp
  simp only [ho, hx, hy, Sem.run_bind, Sem.run_pure, hg, hb, Result.andThen_ok]
theorem hePick {c : Operand} {b : Bool} (ho : o.op = .pick c x y) (hc : a.eval c = .bool b) (hv : (if b = true then a.eval x else a.eval y) = V) (w : World) : (execOp a.eval o).run P w = .ok (.value V) w := by
  unfold execOp
  simp only [ho, hc, ← hv, asBool, Sem.run_bind, Sem.run_pure, Result.andThen_ok]
theorem heBuild {t : TypeId} {parts : Array (Nat × Operand)} {cells : Array Value} (ho : o.op = .build t parts) (hc : P.built t (parts.map fun (i, x) => (i, a.eval x)).toList = some cells) (w : World) : (execOp a.eval o).run P w = .ok (.value (.agg cells)) w := by
  unfold execOp
  simp only [ho, Sem.run_bind, run_build w t _ cells hc, Result.andThen_ok, Sem.run_pure]
theorem heExtract {i : Nat} {vs : Array Value} (ho : o.op = .extract x i) (hx : a.eval x = .tuple vs) (hi : vs[i]? = some V) (w : World) : (execOp a.eval o).run P w = .ok (.value V) w := by
  unfold execOp
  simp [ho, hx, Instr.extract, hi]
theorem heIndex {t : TypeId} {w : World} (ho : o.op = .indexAddr t x y) (hx : a.eval x = V) (hy : a.eval y = W) (hl : (Instr.indexAt t V W).run P w = .ok R w) : (execOp a.eval o).run P w = .ok (.value R) w := by
  unfold execOp
  simp only [ho, hx, hy, Sem.run_bind, Sem.run_pure, hl, Result.andThen_ok]
end
theorem ld8 {w : World} {ad : Addr} {V : Value} (h : w.cell? ad = some V) : (Instr.loadAt 5 (.pointer (some ad))).run Tryz.prog w = .ok V w := by simp [go_sem, h]
theorem ld16 {w : World} {ad : Addr} {V : Value} (h : w.cell? ad = some V) : (Instr.loadAt 22 (.pointer (some ad))).run Tryz.prog w = .ok V w := by simp [go_sem, h]
theorem ldI {w : World} {ad : Addr} {V : Value} (h : w.cell? ad = some V) : (Instr.loadAt 3 (.pointer (some ad))).run Tryz.prog w = .ok V w := by simp [go_sem, h]
theorem ldB {w : World} {ad : Addr} {V : Value} (h : w.cell? ad = some V) : (Instr.loadAt 4 (.pointer (some ad))).run Tryz.prog w = .ok V w := by simp [go_sem, h]
theorem st16 {w : World} {ad : Addr} {V : Value} {v : Int} (h : w.cell? ad = some V) (hz : w.frozen? ad = false) : (Instr.storeAt 22 (.pointer (some ad)) (.int .u16 v)).run Tryz.prog w = .ok () (w.setCell ad (.int .u16 v)) := by simp [go_sem, h, hz]
theorem stI {w : World} {ad : Addr} {V : Value} {v : Int} (h : w.cell? ad = some V) (hz : w.frozen? ad = false) : (Instr.storeAt 3 (.pointer (some ad)) (.int .i64 v)).run Tryz.prog w = .ok () (w.setCell ad (.int .i64 v)) := by simp [go_sem, h, hz]
theorem stB {w : World} {ad : Addr} {V : Value} {v : Bool} (h : w.cell? ad = some V) (hz : w.frozen? ad = false) : (Instr.storeAt 4 (.pointer (some ad)) (.bool v)).run Tryz.prog w = .ok () (w.setCell ad (.bool v)) := by simp [go_sem, h, hz]
theorem infoRg : (Tryz.prog.info? 24).map (·.size) = some 20 := by kernel_rfl
theorem ldR {w : World} {b o : Nat} {g : Rg} (h : w.rangeAt b o (regsC g).toList) : (Instr.loadAt 24 (.pointer (some ⟨b, o, none⟩))).run Tryz.prog w = .ok (regsV g) w :=
  run_loadAt_mid w b o 24 (regsC g).toList _ h Tryz.underlying24 rfl infoRg
theorem stR {w : World} {b o : Nat} {g : Rg} (h : w.there b o (regsC g).size) : (Instr.storeAt 24 (.pointer (some ⟨b, o, none⟩)) (regsV g)).run Tryz.prog w = .ok () (w.setCells b o (regsC g).toList) :=
  run_storeAt_mid w b o 24 (regsC g) h infoRg (by simp [regsC, Value.oneCell'])
theorem egI (op : BinOp) (x y : Operand) (a b : Int) (w : World) : (eqGuard op 3 x y (.int .i64 a) (.int .i64 b)).run Tryz.prog w = .ok () w := by simp [go_sem]
theorem eg8 (op : BinOp) (x y : Operand) (a b : Int) (w : World) : (eqGuard op 5 x y (.int .u8 a) (.int .u8 b)).run Tryz.prog w = .ok () w := by simp [go_sem]
theorem eg16 (op : BinOp) (x y : Operand) (a b : Int) (w : World) : (eqGuard op 22 x y (.int .u16 a) (.int .u16 b)).run Tryz.prog w = .ok () w := by simp [go_sem]
theorem bEqI (x y : Int) (w : World) : (binOp .eql 3 (.int .i64 x) (.int .i64 y)).run Tryz.prog w = .ok (.bool (x == y)) w := by simp [go_sem]
theorem bNeI (x y : Int) (w : World) : (binOp .neq 3 (.int .i64 x) (.int .i64 y)).run Tryz.prog w = .ok (.bool (x != y)) w := by simp [go_sem, bne]
theorem bEq8 (x y : Int) (w : World) : (binOp .eql 5 (.int .u8 x) (.int .u8 y)).run Tryz.prog w = .ok (.bool (x == y)) w := by simp [go_sem]
theorem bAdd16 (x y : Int) (w : World) : (binOp .add 22 (.int .u16 x) (.int .u16 y)).run Tryz.prog w = .ok (.int .u16 ((x + y) % 65536)) w := by simp [go_sem, IntKind.wrap_u16]
theorem bAnd8 (x y : Int) (w : World) : (binOp .and 5 (.int .u8 x) (.int .u8 y)).run Tryz.prog w = .ok (.int .u8 (bits .and .u8 x y)) w := by simp [go_sem]
theorem bOr8 (x y : Int) (w : World) : (binOp .or 5 (.int .u8 x) (.int .u8 y)).run Tryz.prog w = .ok (.int .u8 (bits .or .u8 x y)) w := by simp [go_sem]
theorem bSubI (x y : Int) (h : -9223372036854775808 ≤ x - y) (h' : x - y ≤ 9223372036854775807) (w : World) : (binOp .sub 3 (.int .i64 x) (.int .i64 y)).run Tryz.prog w = .ok (.int .i64 (x - y)) w := by
  have e : IntKind.i64.wrap (x - y) = x - y := by rw [IntKind.wrap_i64]; omega
  simp [go_sem, e]
theorem bMulI (x y : Int) (h : -9223372036854775808 ≤ x * y) (h' : x * y ≤ 9223372036854775807) (w : World) : (binOp .mul 3 (.int .i64 x) (.int .i64 y)).run Tryz.prog w = .ok (.int .i64 (x * y)) w := by
  have e : IntKind.i64.wrap (x * y) = x * y := by rw [IntKind.wrap_i64]; omega
  simp [go_sem, e]
section
variable {P : Program} {ops : Array Oper} {Q : Exit → Act → World → Prop} {a : Act} {w : World} {o : Oper} {rest : List Oper} {x y : Operand} {W : Value}
theorem wantedN (hg : o.guard = none) : Region.wanted o (yielded ops a.tmps) = true := by simp only [Region.wanted, hg]
theorem sMove (d : Tmp) (V : Value) (hd : o.dst = some d) (hg : o.guard = none) (ho : o.op = .move x ∨ o.op = .assign x) (hx : a.eval x = V) (h : WL P ops Q rest (a.put (some d) V) w) : WL P ops Q (o :: rest) a w :=
  list_take d V hd (wantedN hg) (heMove ho hx w) h
theorem sNil (d : Tmp) (ad : Addr) (hd : o.dst = some d) (hg : o.guard = none) (ho : o.op = .nilCheck x) (hx : a.eval x = .pointer (some ad)) (h : WL P ops Q rest (a.put (some d) (.pointer (some ad))) w) : WL P ops Q (o :: rest) a w :=
  list_take d _ hd (wantedN hg) (heNil ho hx w) h
theorem sField (d : Tmp) (V R : Value) {t : TypeId} {f : Nat} (hd : o.dst = some d) (hg : o.guard = none) (ho : o.op = .fieldAddr t x f) (hx : a.eval x = V) (hf : ∀ w, (Instr.fieldAt t V f).run P w = .ok R w) (h : WL P ops Q rest (a.put (some d) R) w) : WL P ops Q (o :: rest) a w :=
  list_take d R hd (wantedN hg) (heField ho hx hf w) h
theorem sLoad (d : Tmp) (ad : Addr) (V : Value) {t : TypeId} (hd : o.dst = some d) (hg : o.guard = none) (ho : o.op = .load t x) (hx : a.eval x = .pointer (some ad)) (hl : (Instr.loadAt t (.pointer (some ad))).run P w = .ok V w) (h : WL P ops Q rest (a.put (some d) V) w) : WL P ops Q (o :: rest) a w :=
  list_take d V hd (wantedN hg) (heLoad ho hx hl) h
theorem sStore (ad : Addr) (V : Value) {t : TypeId} {w' : World} (hd : o.dst = none) (hg : o.guard = none) (ho : o.op = .store t x y) (hx : a.eval x = .pointer (some ad)) (hy : a.eval y = V) (hl : (Instr.storeAt t (.pointer (some ad)) V).run P w = .ok () w') (h : WL P ops Q rest (a.put none undef) w') : WL P ops Q (o :: rest) a w :=
  list_do hd (wantedN hg) (heStore ho hx hy hl) h
theorem sBin (d : Tmp) (V W R : Value) {op : BinOp} {t r : TypeId} (hd : o.dst = some d) (hg : o.guard = none) (ho : o.op = .binOp op t x y r) (hx : a.eval x = V) (hy : a.eval y = W) (hgd : ∀ w, (eqGuard op t x y V W).run P w = .ok () w) (hb : ∀ w, (binOp op t V W).run P w = .ok R w) (h : WL P ops Q rest (a.put (some d) R) w) : WL P ops Q (o :: rest) a w :=
  list_take d R hd (wantedN hg) (heBin ho hx hy hgd hb w) h
theorem sPick (d : Tmp) (V : Value) (b : Bool) {c : Operand} (hd : o.dst = some d) (hg : o.guard = none) (ho : o.op = .pick c x y) (hc : a.eval c = .bool b) (hv : (if b = true then a.eval x else a.eval y) = V) (h : WL P ops Q rest (a.put (some d) V) w) : WL P ops Q (o :: rest) a w :=
  list_take d V hd (wantedN hg) (hePick ho hc hv w) h
theorem sBuild (d : Tmp) (cells : Array Value) {t : TypeId} {parts : Array (Nat × Operand)} (hd : o.dst = some d) (hg : o.guard = none) (ho : o.op = .build t parts) (hc : P.built t (parts.map fun (i, x) => (i, a.eval x)).toList = some cells) (h : WL P ops Q rest (a.put (some d) (.agg cells)) w) : WL P ops Q (o :: rest) a w :=
  list_take d _ hd (wantedN hg) (heBuild ho hc w) h
theorem sExtract (d : Tmp) (vs : Array Value) (V : Value) {i : Nat} (hd : o.dst = some d) (hg : o.guard = none) (ho : o.op = .extract x i) (hx : a.eval x = .tuple vs) (hi : vs[i]? = some V) (h : WL P ops Q rest (a.put (some d) V) w) : WL P ops Q (o :: rest) a w :=
  list_take d V hd (wantedN hg) (heExtract ho hx hi w) h
theorem sIndex (d : Tmp) (V W R : Value) {t : TypeId} (hd : o.dst = some d) (hg : o.guard = none) (ho : o.op = .indexAddr t x y) (hx : a.eval x = V) (hy : a.eval y = W) (hl : (Instr.indexAt t V W).run P w = .ok R w) (h : WL P ops Q rest (a.put (some d) R) w) : WL P ops Q (o :: rest) a w :=
  list_take d R hd (wantedN hg) (heIndex ho hx hy hl) h
theorem sCallO (V : Value) {g : FuncId} {args : Array Value} {N : World → Prop} (hg : o.guard = none) (he : (execOp a.eval o).run P w = .ok (.enter g args) w) (hc : Calls P g args w fun e w' => e = .returned V ∧ N w')
    (h : ∀ w', N w' → WL P ops Q rest (a.put o.dst V) w') : WL P ops Q (o :: rest) a w :=
  list_call (wantedN hg) he hc fun e w' ⟨h1, h2⟩ => by subst h1; exact h w' h2
theorem thenN {next : Act → World → Prop} (h : next a w) : Exit.then next Q .normal a w := h
theorem thenR {next : Act → World → Prop} (h : Q .ret a w) : Exit.then next Q .ret a w := h
theorem thenX {next : Act → World → Prop} {c : List PanicEntry} (h : Q (.panic c) a w) : Exit.then next Q (.panic c) a w := h
theorem thenE {next : Act → World → Prop} {i : Nat} (h : Q (.exit i) a w) : Exit.then next Q (.exit i) a w := h
theorem blockN {i : Nat} (h : Q .normal a w) : Exit.inBlock i Q .normal a w := h
theorem blockX {i : Nat} {c : List PanicEntry} (h : Q (.panic c) a w) : Exit.inBlock i Q (.panic c) a w := h
theorem blockE {i : Nat} (h : Q .normal a w) : Exit.inBlock i Q (.exit i) a w := by simp only [Exit.inBlock, if_true]; exact h
theorem endV {fn : Func} {R : Ending → World → Prop} (h : fn.results = #[]) (hd : a.defers = []) (hR : R (.returned (.tuple #[])) w) : bodyPost P fn R .normal a w := bodyPost_end (results_none h _ _ _) hd hR
theorem retI {fn : Func} {R : Ending → World → Prop} (t : Tmp) (V : Value) (h : fn.results = #[.tmp t]) (hv : a.tmps.getD t undef = V) (hd : a.defers = []) (hR : R (.returned V) w) : bodyPost P fn R .ret a w := bodyPost_ret (by rw [results_tmp h, hv]) hd hR
theorem panicP {fn : Func} {R : Ending → World → Prop} {c : List PanicEntry} (hd : a.defers = []) (hR : R (.panicked c) w) : bodyPost P fn R (.panic c) a w := ⟨hd, hR⟩
end
section
variable {α β : Type}
theorem run_if_pos {c : Prop} [Decidable c] {t e : Tr α} {xs : List Int} (hc : c) : (if c then t else e).run xs = t.run xs := by rw [if_pos hc]
theorem run_if_neg {c : Prop} [Decidable c] {t e : Tr α} {xs : List Int} (hc : ¬ c) : (if c then t else e).run xs = e.run xs := by rw [if_neg hc]
theorem run_bif_pos {c : Prop} [Decidable c] {t e : Tr α} {f : α → Tr β} {xs : List Int} (hc : c) : ((if c then t else e).bind f).run xs = (t.bind f).run xs := by rw [if_pos hc]
theorem run_bif_neg {c : Prop} [Decidable c] {t e : Tr α} {f : α → Tr β} {xs : List Int} (hc : ¬ c) : ((if c then t else e).bind f).run xs = (e.bind f).run xs := by rw [if_neg hc]
theorem Wd16.mod (x : Int) : Wd16 (x % 65536) := ⟨by omega, by omega⟩
theorem B8.mod (x : Int) : B8 (x % 256) := ⟨by omega, by omega⟩
end
@[reducible] def pT (b k : Nat) : Value := .pointer (some ⟨b, k, none⟩)
theorem sA {α : Type} (l : List α) (i : Nat) (a : α) : l.toArray.setIfInBounds i a = (l.set i a).toArray := List.setIfInBounds_toArray l i a
theorem sB {α : Type} (x a : α) (l : List α) : (x :: l).set 0 a = a :: l := List.set_cons_zero
theorem sC {α : Type} (x a : α) (l : List α) (i : Nat) : (x :: l).set (i + 1) a = x :: l.set i a := List.set_cons_succ
section
variable {P : Program} {ops : Array Oper} {Q : Exit → Act → World → Prop} {a : Act} {w : World} {o : Oper} {rest : List Oper} {x y : Operand} {V W R : Value} {t r : TypeId}
theorem oM (d : Tmp) (V : Value) (h : WL P ops Q rest (a.put (some d) V) w) (hd : o.dst = some d := by exact rfl) (hg : o.guard = none := by exact rfl) (ho : o.op = .move x := by exact rfl) (hx : a.eval x = V := by kernel_rfl) : WL P ops Q (o :: rest) a w := sMove d V hd hg (.inl ho) hx h
theorem oA (d : Tmp) (V : Value) (h : WL P ops Q rest (a.put (some d) V) w) (hd : o.dst = some d := by exact rfl) (hg : o.guard = none := by exact rfl) (ho : o.op = .assign x := by exact rfl) (hx : a.eval x = V := by kernel_rfl) : WL P ops Q (o :: rest) a w := sMove d V hd hg (.inr ho) hx h
theorem oN (d : Tmp) (p k : Nat) (h : WL P ops Q rest (a.put (some d) (pT p k)) w) (hd : o.dst = some d := by exact rfl) (hg : o.guard = none := by exact rfl) (ho : o.op = .nilCheck x := by exact rfl) (hx : a.eval x = pT p k := by kernel_rfl) : WL P ops Q (o :: rest) a w := sNil d ⟨p, k, none⟩ hd hg ho hx h
theorem oF (d : Tmp) {f : Nat} (hf : ∀ w, (Instr.fieldAt t V f).run P w = .ok R w) (h : WL P ops Q rest (a.put (some d) R) w) (hd : o.dst = some d := by exact rfl) (hg : o.guard = none := by exact rfl) (ho : o.op = .fieldAddr t x f := by exact rfl) (hx : a.eval x = V := by kernel_rfl) : WL P ops Q (o :: rest) a w := sField d V R hd hg ho hx hf h
theorem oL (d : Tmp) {ad : Addr} (hl : (Instr.loadAt t (.pointer (some ad))).run P w = .ok V w) (h : WL P ops Q rest (a.put (some d) V) w) (hd : o.dst = some d := by exact rfl) (hg : o.guard = none := by exact rfl) (ho : o.op = .load t x := by exact rfl) (hx : a.eval x = .pointer (some ad) := by kernel_rfl) : WL P ops Q (o :: rest) a w := sLoad d ad V hd hg ho hx hl h
theorem oB (d : Tmp) {op : BinOp} (hgd : ∀ w, (eqGuard op t x y V W).run P w = .ok () w) (hb : ∀ w, (binOp op t V W).run P w = .ok R w) (h : WL P ops Q rest (a.put (some d) R) w) (hd : o.dst = some d := by exact rfl) (hg : o.guard = none := by exact rfl) (ho : o.op = .binOp op t x y r := by exact rfl) (hx : a.eval x = V := by kernel_rfl) (hy : a.eval y = W := by kernel_rfl) : WL P ops Q (o :: rest) a w := sBin d V W R hd hg ho hx hy hgd hb h
theorem oP (d : Tmp) (V : Value) (b : Bool) {c : Operand} (h : WL P ops Q rest (a.put (some d) V) w) (hd : o.dst = some d := by exact rfl) (hg : o.guard = none := by exact rfl) (ho : o.op = .pick c x y := by exact rfl) (hc : a.eval c = .bool b := by kernel_rfl) (hv : (if b = true then a.eval x else a.eval y) = V := by kernel_rfl) : WL P ops Q (o :: rest) a w := sPick d V b hd hg ho hc hv h
theorem oX (d : Tmp) (vs : Array Value) (V : Value) {i : Nat} (h : WL P ops Q rest (a.put (some d) V) w) (hd : o.dst = some d := by exact rfl) (hg : o.guard = none := by exact rfl) (ho : o.op = .extract x i := by exact rfl) (hx : a.eval x = .tuple vs := by kernel_rfl) (hi : vs[i]? = some V := by kernel_rfl) : WL P ops Q (o :: rest) a w := sExtract d vs V hd hg ho hx hi h
theorem oS (ad : Addr) (V : Value) {w' : World} (hl : (Instr.storeAt t (.pointer (some ad)) V).run P w = .ok () w') (h : WL P ops Q rest (a.put none undef) w') (hd : o.dst = none := by exact rfl) (hg : o.guard = none := by exact rfl) (ho : o.op = .store t x y := by exact rfl) (hx : a.eval x = .pointer (some ad) := by kernel_rfl) (hy : a.eval y = V := by kernel_rfl) : WL P ops Q (o :: rest) a w := sStore ad V hd hg ho hx hy hl h
theorem oU (d : Tmp) (cells : Array Value) {parts : Array (Nat × Operand)} (h : WL P ops Q rest (a.put (some d) (.agg cells)) w) (hd : o.dst = some d := by exact rfl) (hg : o.guard = none := by exact rfl) (ho : o.op = .build t parts := by exact rfl) (hc : P.built t (parts.map fun (i, x) => (i, a.eval x)).toList = some cells := by kernel_rfl) : WL P ops Q (o :: rest) a w := sBuild d cells hd hg ho hc h
theorem oI (d : Tmp) (V W R : Value) (hl : (Instr.indexAt t V W).run P w = .ok R w) (h : WL P ops Q rest (a.put (some d) R) w) (hd : o.dst = some d := by exact rfl) (hg : o.guard = none := by exact rfl) (ho : o.op = .indexAddr t x y := by exact rfl) (hx : a.eval x = V := by kernel_rfl) (hy : a.eval y = W := by kernel_rfl) : WL P ops Q (o :: rest) a w := sIndex d V W R hd hg ho hx hy hl h
theorem oZ (d : Tmp) (h : WL P ops Q rest (a.put (some d) undef) w) (hd : o.dst = some d := by exact rfl) (hw : Region.wanted o (yielded ops a.tmps) = false := by kernel_rfl) : WL P ops Q (o :: rest) a w := list_skip d hd hw h
theorem oT (d : Tmp) (V : Value) (he : (execOp a.eval o).run P w = .ok (.value V) w) (h : WL P ops Q rest (a.put (some d) V) w) (hd : o.dst = some d := by exact rfl) (hw : Region.wanted o (yielded ops a.tmps) = true := by kernel_rfl) : WL P ops Q (o :: rest) a w := list_take d V hd hw he h
theorem oY (d : Tmp) (V : Value) (h : WL P ops Q rest (a.put (some d) V) w) (hd : o.dst = some d := by exact rfl) (hw : Region.wanted o (yielded ops a.tmps) = true := by kernel_rfl) (ho : o.op = .move x := by exact rfl) (hx : a.eval x = V := by kernel_rfl) : WL P ops Q (o :: rest) a w := list_take d V hd hw (heMove (.inl ho) hx _) h
theorem oC (V : Value) {g : FuncId} {args : Array Value} {N : World → Prop} (hc : Calls P g args w fun e w' => e = .returned V ∧ N w') (h : ∀ w', N w' → WL P ops Q rest (a.put o.dst V) w') (hg : o.guard = none := by exact rfl) (he : (execOp a.eval o).run P w = .ok (.enter g args) w := by kernel_rfl) : WL P ops Q (o :: rest) a w := sCallO V hg he hc h
end
section
variable {P : Program} {ops : Array Oper} {Q : Exit → Act → World → Prop} {a : Act} {w : World} {o : Oper} {S : World → Prop} {n f : Nat} {listed : Array Bool} {x y : Operand} {V W R : Value} {t r : TypeId}
theorem yG (i : Nat) (d : Tmp) (v : Value) (ho : ops[i]? = some o) (he : ∀ w, S w → (execOp a.eval o).run P w = .ok (.value v) w) (hS : S w) (h : partT P ops Q S n f (listed.setIfInBounds i true) (a.put (some d) v) w) (hd : o.dst = some d := by exact rfl) (hB : partB ops n = true := by kernel_rfl) (hin : decide (i < n) = true := by kernel_rfl)
    (hf : Region.free .any ops listed i = true := by kernel_rfl) (hr : (Region.ready .any ops listed).contains i = true := by kernel_rfl) (hQ : ∀ c a w, Q (.panic c) (a.put o.dst v) w → Q (.panic c) a w := by exact fun _ _ _ h => h) (hw : Region.wanted o (yielded ops a.tmps) = true := by kernel_rfl) : partT P ops Q S n (f + 1) listed a w :=
  part_take d v hd ho hB hin hf hr hQ hw he hS h
theorem yM (i : Nat) (d : Tmp) (v : Value) (hS : S w) (h : partT P ops Q S n f (listed.setIfInBounds i true) (a.put (some d) v) w) (ho : ops[i]? = some o := by exact rfl) (hd : o.dst = some d := by exact rfl) (hB : partB ops n = true := by kernel_rfl) (hin : decide (i < n) = true := by kernel_rfl)
    (hf : Region.free .any ops listed i = true := by kernel_rfl) (hr : (Region.ready .any ops listed).contains i = true := by kernel_rfl) (hQ : ∀ c a w, Q (.panic c) (a.put o.dst v) w → Q (.panic c) a w := by exact fun _ _ _ h => h) (hw : Region.wanted o (yielded ops a.tmps) = true := by kernel_rfl)
    (hp : o.op = .move x := by exact rfl) (hx : a.eval x = v := by kernel_rfl) : partT P ops Q S n (f + 1) listed a w :=
  part_take d v hd ho hB hin hf hr hQ hw (fun w _ => heMove (.inl hp) hx w) hS h
theorem yN (i : Nat) (d : Tmp) (p k : Nat) (hS : S w) (h : partT P ops Q S n f (listed.setIfInBounds i true) (a.put (some d) (pT p k)) w) (ho : ops[i]? = some o := by exact rfl) (hd : o.dst = some d := by exact rfl) (hB : partB ops n = true := by kernel_rfl) (hin : decide (i < n) = true := by kernel_rfl)
    (hf : Region.free .any ops listed i = true := by kernel_rfl) (hr : (Region.ready .any ops listed).contains i = true := by kernel_rfl) (hQ : ∀ c a w, Q (.panic c) (a.put o.dst (pT p k)) w → Q (.panic c) a w := by exact fun _ _ _ h => h) (hw : Region.wanted o (yielded ops a.tmps) = true := by kernel_rfl)
    (hp : o.op = .nilCheck x := by exact rfl) (hx : a.eval x = pT p k := by kernel_rfl) : partT P ops Q S n (f + 1) listed a w :=
  part_take d (pT p k) hd ho hB hin hf hr hQ hw (fun w _ => heNil hp hx w) hS h
theorem yF (i : Nat) (d : Tmp) {j : Nat} (hl : ∀ w, (Instr.fieldAt t V j).run P w = .ok R w) (hS : S w) (h : partT P ops Q S n f (listed.setIfInBounds i true) (a.put (some d) R) w) (ho : ops[i]? = some o := by exact rfl) (hd : o.dst = some d := by exact rfl) (hB : partB ops n = true := by kernel_rfl) (hin : decide (i < n) = true := by kernel_rfl)
    (hf : Region.free .any ops listed i = true := by kernel_rfl) (hr : (Region.ready .any ops listed).contains i = true := by kernel_rfl) (hQ : ∀ c a w, Q (.panic c) (a.put o.dst R) w → Q (.panic c) a w := by exact fun _ _ _ h => h) (hw : Region.wanted o (yielded ops a.tmps) = true := by kernel_rfl)
    (hp : o.op = .fieldAddr t x j := by exact rfl) (hx : a.eval x = V := by kernel_rfl) : partT P ops Q S n (f + 1) listed a w :=
  part_take d R hd ho hB hin hf hr hQ hw (fun w _ => heField hp hx hl w) hS h
theorem yL (i : Nat) (d : Tmp) {ad : Addr} (V : Value) (hl : ∀ w, S w → (Instr.loadAt t (.pointer (some ad))).run P w = .ok V w) (hS : S w) (h : partT P ops Q S n f (listed.setIfInBounds i true) (a.put (some d) V) w) (ho : ops[i]? = some o := by exact rfl) (hd : o.dst = some d := by exact rfl) (hB : partB ops n = true := by kernel_rfl) (hin : decide (i < n) = true := by kernel_rfl)
    (hf : Region.free .any ops listed i = true := by kernel_rfl) (hr : (Region.ready .any ops listed).contains i = true := by kernel_rfl) (hQ : ∀ c a w, Q (.panic c) (a.put o.dst V) w → Q (.panic c) a w := by exact fun _ _ _ h => h) (hw : Region.wanted o (yielded ops a.tmps) = true := by kernel_rfl)
    (hp : o.op = .load t x := by exact rfl) (hx : a.eval x = .pointer (some ad) := by kernel_rfl) : partT P ops Q S n (f + 1) listed a w :=
  part_take d V hd ho hB hin hf hr hQ hw (fun w hS => heLoad hp hx (hl w hS)) hS h
end
def whenM (h : Bool) (v : Int) : Int := if h then v else 0
theorem when_any (h : Bool) (v : Int) (h0 : 0 ≤ v) (h1 : v ≤ 255) (w : World) :
    Calls Tryz.prog 321 #[.bool h, .int .u8 v] w fun e w' => e = .returned (.int .u8 (whenM h v)) ∧ w = w' := by
  cases h
  all_goals
    go_enter Tryz.func321, Tryz.ntmps321
    go_wp2
    go_ret
    exact ⟨rfl, rfl⟩
theorem pow_fin : ∀ k : Fin 8, (2 : Int) ^ k.val % 256 = 2 ^ k.val ∧ (1 : Int) ≤ 2 ^ k.val ∧ (2 : Int) ^ k.val ≤ 128 ∧ (2 ^ k.val * 2 : Int) % 256 = 2 ^ (k.val + 1) % 256 := by decide +kernel
theorem pow_facts (k : Nat) (hk : k < 8) : (2 : Int) ^ k % 256 = 2 ^ k ∧ (1 : Int) ≤ 2 ^ k ∧ (2 : Int) ^ k ≤ 128 ∧ (2 ^ k * 2 : Int) % 256 = 2 ^ (k + 1) % 256 := pow_fin ⟨k, hk⟩
theorem or_and_bit (a b : Int) (ha : B8 a) (hb : B8 b) (k : Nat) (hk : k < 8) : (bits .and .u8 (bits .or .u8 a b) (2 ^ k) != 0) = (isM a k || isM b k) := by
  have h := or_byte a b ha.1 ha.2 hb.1 hb.2
  have e := and_bit (bits .or .u8 a b) (k : Int) h.1 h.2 (by omega) (by omega)
  rw [Int.toNat_natCast, (pow_facts k hk).1] at e
  rw [e, isM_or a b k hk ha.1 ha.2 hb.1 hb.2]
theorem and_and_bit (a b : Int) (ha : B8 a) (hb : B8 b) (k : Nat) (hk : k < 8) : (bits .and .u8 (bits .and .u8 a b) (2 ^ k) != 0) = (isM a k && isM b k) := by
  have h := and_byte a b ha.1 ha.2 hb.1 hb.2
  have e := and_bit (bits .and .u8 a b) (k : Int) h.1 h.2 (by omega) (by omega)
  rw [Int.toNat_natCast, (pow_facts k hk).1] at e
  rw [e, isM_and a b k hk ha.1 ha.2 hb.1 hb.2]
theorem or_pow (x : Int) (hx : B8 x) (k : Nat) (hk : k < 8) : bits .or .u8 x (2 ^ k) = withM x k true := by
  have e := or_bit x (k : Int) hx.1 hx.2 (by omega) (by omega)
  rwa [Int.toNat_natCast, (pow_facts k hk).1] at e
theorem bit_down (B : Int) (h1 : 1 ≤ B) (h2 : B ≤ 128) : (if B * 2 % 256 = 0 then 0 else 256 - (B * 2 % 256).toNat) < if B = 0 then 0 else 256 - B.toNat := by
  rw [if_neg (show ¬ B = 0 by omega)]
  by_cases h : B * 2 % 256 = 0
  · rw [if_pos h]; omega
  · rw [if_neg h]; omega
theorem carries_any (a b : Int) (c : Bool) (ha : B8 a) (hb : B8 b) (w : World) :
    Calls Tryz.prog 322 #[.int .u8 a, .int .u8 b, .bool c] w fun e w' => e = .returned (.int .u8 (outM a b c 8)) ∧ w = w' := by
  go_enter Tryz.func322, Tryz.ntmps322
  go_wp2
  go_loop [2, 7, 8] (fun cc o i => ∃ k : Nat, k ≤ 8 ∧ cc = .bool (cK a b c k) ∧ o = .int .u8 (outM a b c k) ∧ i = .int .u8 (2 ^ k % 256)) (fun _ _ i => if intOf i = 0 then 0 else 256 - (intOf i).toNat)
  case atStart => exact ⟨0, by omega, by rw [cK_zero], rfl, rfl⟩
  case round =>
    obtain ⟨k, hk, rfl, rfl, rfl⟩ := hrel
    by_cases hlt : k < 8
    · obtain ⟨p0, p1, p2, p3⟩ := pow_facts k hlt
      have hs := cK_step a b c k hlt
      have o0 := or_and_bit a b ha hb k hlt
      have o1 := and_and_bit a b ha hb k hlt
      have o2 := Lib.hid (or_pow _ (outM_byte a b c k) k hlt)
      have e2 : outM a b c (k + 1) = if cK a b c (k + 1) then withM (outM a b c k) k true else outM a b c k := rfl
      rw [p0]
      have P0 := Lib.hid p0
      have P3 := Lib.hid p3
      clear p0 p3
      generalize hB : (2 : Int) ^ k = B at *
      have nz : (B != 0) = true := by simp; omega
      cases hc : cK a b c k
      · rw [hc] at hs
        simp only [Bool.false_eq_true, if_false, if_true] at hs
        rw [← hs] at o1
        cases hd : cK a b c (k + 1)
        · rw [hd] at o1 e2
          have HC := Lib.hid hc
          have HD := Lib.hid hd
          have E2 := Lib.hid e2
          clear hs o0 hc hd e2
          go_wp2
          refine ⟨⟨k + 1, by omega, by rw [HD.out], ?_, by rw [P3.out]⟩, ?_⟩
          · rw [E2.out]; rfl
          · exact bit_down B p1 p2
        · rw [hd] at o1 e2
          have HC := Lib.hid hc
          have HD := Lib.hid hd
          have E2 := Lib.hid e2
          clear hs o0 hc hd e2
          go_wp2
          refine ⟨⟨k + 1, by omega, by rw [HD.out], ?_, by rw [P3.out]⟩, ?_⟩
          · rw [E2.out, o2.out]; rfl
          · exact bit_down B p1 p2
      · rw [hc] at hs
        simp only [Bool.false_eq_true, if_false, if_true] at hs
        rw [← hs] at o0
        cases hd : cK a b c (k + 1)
        · rw [hd] at o0 e2
          have HC := Lib.hid hc
          have HD := Lib.hid hd
          have E2 := Lib.hid e2
          clear hs o1 hc hd e2
          go_wp2
          refine ⟨⟨k + 1, by omega, by rw [HD.out], ?_, by rw [P3.out]⟩, ?_⟩
          · rw [E2.out]; rfl
          · exact bit_down B p1 p2
        · rw [hd] at o0 e2
          have HC := Lib.hid hc
          have HD := Lib.hid hd
          have E2 := Lib.hid e2
          clear hs o1 hc hd e2
          go_wp2
          refine ⟨⟨k + 1, by omega, by rw [HD.out], ?_, by rw [P3.out]⟩, ?_⟩
          · rw [E2.out, o2.out]; rfl
          · exact bit_down B p1 p2
    · obtain rfl : k = 8 := by omega
      go_wp2
      go_ret
      exact ⟨rfl, rfl⟩
def joinUpto (zs : List Int) : Nat → Int
  | 0 => 0
  | k + 1 => bits .or .u8 (joinUpto zs k) (zs.getD k 0)
theorem join_any (b off len cap : Nat) (zs : List Int) (w : World) (hz : len ≤ zs.length) (hbig : len ≤ 100) (hc : ∀ j, j < zs.length → w.cell? ⟨b, off + j, none⟩ = some (.int .u8 (zs.getD j 0))) :
    Calls Tryz.prog 314 #[.slice (some ⟨b, off, none⟩) len cap] w fun e w' => e = .returned (.int .u8 (joinUpto zs len)) ∧ w = w' := by
  go_enter Tryz.func314, Tryz.ntmps314
  go_wp2
  go_loop [3, 8] (fun t i => ∃ k : Nat, k ≤ len ∧ i = .int .i64 k ∧ t = .int .u8 (joinUpto zs k)) (fun _ i => len - (intOf i).toNat)
  case atStart => exact ⟨0, Nat.zero_le _, rfl, rfl⟩
  case round =>
    obtain ⟨k, hk, rfl, rfl⟩ := hrel
    by_cases hlt : k < len
    · have hk0 : (0 : Int) ≤ (k : Int) := by omega
      have hk1 : (k : Int) < (len : Int) := by omega
      have hcell := hc k (by omega)
      have hc := Lib.hid hc
      go_wp2
      go_round
      case rel => exact ⟨k + 1, by omega, by go_num, rfl⟩
      case measure => simp [intOf]; omega
    · obtain rfl : k = len := by omega
      go_wp2
      go_ret
      exact ⟨rfl, rfl⟩
abbrev two (r f : Int) : Value := .tuple #[.int .u8 r, .int .u8 f]
theorem keep2 {w w' : World} {A B : Nat} {u v : Value} (k : Below w.heap.size w w') (h : w.cell? ⟨A, 0, none⟩ = some u ∧ w.cell? ⟨B, 0, none⟩ = some v) :
    w'.cell? ⟨A, 0, none⟩ = some u ∧ w'.cell? ⟨B, 0, none⟩ = some v :=
  ⟨(k.cell (World.block_lt_of_cell? _ _ h.1)).trans h.1, (k.cell (World.block_lt_of_cell? _ _ h.2)).trans h.2⟩
theorem cell_new (w : World) (v : Value) (t : TypeId) : (w.alloc (.cells #[v] t)).cell? ⟨w.heap.size, 0, none⟩ = some v := by
  have e : ∀ o : Obj, (w.alloc o).heap[w.heap.size]? = some o := fun o => by
    show (w.heap.push _)[w.heap.size]? = _
    simp
  simp only [World.cell?, e]; rfl
theorem cell_kept {w w' : World} {p : Addr} {v : Value} (h : w.cell? p = some v) (k : Below w.heap.size w w') : w'.cell? p = some v :=
  (k.cell (World.block_lt_of_cell? _ _ h)).trans h
theorem cell_under (w : World) (o : Obj) {p : Addr} {v : Value} (h : w.cell? p = some v) : (w.alloc o).cell? p = some v :=
  cell_kept h (Below.alloc (Below.refl _ _) (Nat.le_refl _) _)
theorem join_add_fin : ∀ (x : Fin 256) (h v c : Bool), joinUpto [resultM (x.val : Int), whenM h 16, whenM v 4, whenM c 1] 4 = mkM (isM (x.val : Int) 7) ((x.val : Int) == 0) (isM (x.val : Int) 5) h (isM (x.val : Int) 3) v false c := by decide +kernel
theorem join_add (x : Int) (hx : B8 x) (h v c : Bool) : joinUpto [resultM x, whenM h 16, whenM v 4, whenM c 1] 4 = mkM (isM x 7) (x == 0) (isM x 5) h (isM x 3) v false c :=
  byte_all (P := fun x => joinUpto [resultM x, whenM h 16, whenM v 4, whenM c 1] 4 = mkM (isM x 7) (x == 0) (isM x 5) h (isM x 3) v false c) (fun x => join_add_fin x h v c) x hx.1 hx.2
theorem add_math (a b : Int) (c : Bool) (ha : B8 a) (hb : B8 b) :
    joinUpto [resultM (addR a b c), whenM (isM (outM a b c 8) 3) 16, whenM (!isM (outM a b c 8) 6 == isM (outM a b c 8) 7) 4, whenM (isM (outM a b c 8) 7) 1] 4 = addF a b c := by
  obtain ⟨e3, e6, e7⟩ := out_bits a b c
  obtain ⟨n4, n8, n7⟩ := cK_nums a b c ha hb
  change joinUpto [_, _, whenM (isM (outM a b c 8) 6 != isM (outM a b c 8) 7) 4, _] 4 = _
  rw [join_add _ (addR_byte a b c), e3, e6, e7, n7, n4, n8]
  rfl
theorem cells4 (w : World) (t : TypeId) (x0 x1 x2 x3 : Int) (n : Nat × Nat) : ∀ j, j < [x0, x1, x2, x3].length → (w.alloc (.cells #[.int .u8 x0, .int .u8 x1, .int .u8 x2, .int .u8 x3] t n)).cell? ⟨w.heap.size, 0 + j, none⟩ = some (.int .u8 ([x0, x1, x2, x3].getD j 0)) := by
  have e : ∀ o : Obj, (w.alloc o).heap[w.heap.size]? = some o := fun o => by
    show (w.heap.push _)[w.heap.size]? = _
    simp
  intro j hj
  match j, hj with
  | 0, _ => simp only [World.cell?, Nat.zero_add, e]; rfl
  | 1, _ => simp only [World.cell?, Nat.zero_add, e]; rfl
  | 2, _ => simp only [World.cell?, Nat.zero_add, e]; rfl
  | 3, _ => simp only [World.cell?, Nat.zero_add, e]; rfl
theorem cells2 (w : World) (t : TypeId) (x0 x1 : Int) (n : Nat × Nat) : ∀ j, j < [x0, x1].length → (w.alloc (.cells #[.int .u8 x0, .int .u8 x1] t n)).cell? ⟨w.heap.size, 0 + j, none⟩ = some (.int .u8 ([x0, x1].getD j 0)) := by
  have e : ∀ o : Obj, (w.alloc o).heap[w.heap.size]? = some o := fun o => by
    show (w.heap.push _)[w.heap.size]? = _
    simp
  intro j hj
  match j, hj with
  | 0, _ => simp only [World.cell?, Nat.zero_add, e]; rfl
  | 1, _ => simp only [World.cell?, Nat.zero_add, e]; rfl
theorem add_any (a b : Int) (c : Bool) (ha : B8 a) (hb : B8 b) (w : World) :
    Calls Tryz.prog 287 #[.int .u8 a, .int .u8 b, .bool c] w fun e w' => e = .returned (two (addR a b c) (addF a b c)) ∧ Below w.heap.size w w' := by
  have hm := Lib.hid (add_math a b c ha hb)
  have hr := Lib.hid (addR_byte a b c)
  have ho := Lib.hid (outM_byte a b c 8)
  have ha := Lib.hid ha
  have hb := Lib.hid hb
  have a0 := ha.out.1
  have a1 := ha.out.2
  have b0 := hb.out.1
  have b1 := hb.out.2
  go_enter Tryz.func287, Tryz.ntmps287
  go_wp2_with (first
    | (go_at_call 321; refine (when_any _ _ (by omega) (by omega) _).mono ?_; rintro e w' ⟨rfl, rfl⟩)
    | (go_at_call 322; refine (carries_any _ _ _ ha.out hb.out _).mono ?_; rintro e w' ⟨rfl, rfl⟩)
    | (go_at_call 258; refine (is_any _ _ ho.out.1 ho.out.2 _).mono ?_; rintro e w' ⟨rfl, rfl⟩)
    | (go_at_call 307; refine (result_any _ (by omega) (by omega) _).mono ?_; rintro e w' ⟨rfl, rfl⟩)
    | (go_at_call 314; refine (join_any _ 0 4 4 [resultM (addR a b c), whenM (isM (outM a b c 8) 3) 16, whenM (!isM (outM a b c 8) 6 == isM (outM a b c 8) 7) 4, whenM (isM (outM a b c 8) 7) 1] _ (by simp) (by omega) (cells4 _ _ _ _ _ _ _)).mono ?_; rintro e w' ⟨rfl, rfl⟩))
  go_ret2
  exact ⟨by rw [hm.out]; rfl, (by repeat (first | exact Below.refl _ _ | assumption | refine bstep ?_ (by assumption) | refine Below.drew ?_ | refine Below.alloc ?_ (by first | (simp; done) | (simp; omega) | omega) _ | refine Below.setCell ?_ (by first | (simp; done) | (simp; omega) | omega) _))⟩
end Go.Proofs.YtkenebbjodcbcaaGreatDoor
