/- Memory: a slice of bytes that reads as a list; what has turned but two boxes; a block known whole. Nothing of the program. -/
import Derived.WalkKit
import Derived.Below
import Derived.RangeFuncBox
namespace Go.Proofs.Ytahnejcfengljaa
open Go.RowKit
set_option linter.unusedVariables false

theorem add_block (a : Addr) (n : Nat) : (a.add n).block = a.block := by unfold Addr.add; split <;> rfl
theorem add_twice (a : Addr) (i j : Nat) : (a.add i).add j = a.add (i + j) := by
  unfold Addr.add
  by_cases hi : i = 0 <;> by_cases hj : j = 0 <;> simp [hi, hj, Nat.add_assoc]
/-- the bytes of a slice that begins at A, which lies below block B -/
def BytesIn (w : World) (B : Nat) (A : Option Addr) (xs : List Int) : Prop :=
  ∀ j x, xs[j]? = some x → ∃ ad, A = some ad ∧ ad.block < B ∧ w.cell? (ad.add j) = some (.int .u8 x)
theorem BytesIn.nil (w : World) (B : Nat) (A : Option Addr) : BytesIn w B A [] := fun j x h => by simp at h
theorem BytesIn.keep {w w' : World} {B : Nat} {A : Option Addr} {xs : List Int} (h : BytesIn w B A xs) (k : ∀ b, b < B → w'.heap[b]? = w.heap[b]?) : BytesIn w' B A xs := fun j x hx => by
  obtain ⟨ad, e, hb, hc⟩ := h j x hx
  exact ⟨ad, e, hb, (World.cell?_of_block (by rw [add_block]; exact k _ hb)).trans hc⟩
theorem BytesIn.more {w : World} {B B' : Nat} {A : Option Addr} {xs : List Int} (h : BytesIn w B A xs) (k : B ≤ B') : BytesIn w B' A xs := fun j x hx => by
  obtain ⟨ad, e, hb, hc⟩ := h j x hx
  exact ⟨ad, e, by omega, hc⟩
theorem BytesIn.below {w w' : World} {B : Nat} {A : Option Addr} {xs : List Int} (h : BytesIn w B A xs) (k : Below B w w') : BytesIn w' B A xs := h.keep fun b hb => k.block b hb
theorem BytesIn.drop {w : World} {B : Nat} {A : Option Addr} {xs : List Int} (h : BytesIn w B A xs) {k cap : Nat} (hk : k ≤ xs.length) (hc : xs.length ≤ cap) :
    BytesIn w B (if cap = k then A else A.map (·.add k)) (xs.drop k) := fun j x hx => by
  rw [List.getElem?_drop] at hx
  obtain ⟨ad, rfl, hb, hcell⟩ := h _ x hx
  have hl : k + j < xs.length := (List.getElem?_eq_some_iff.1 hx).1
  rw [if_neg (by omega)]
  exact ⟨ad.add k, rfl, by rw [add_block]; exact hb, by rw [add_twice]; exact hcell⟩
theorem BytesIn.take {w : World} {B : Nat} {A : Option Addr} {xs : List Int} (h : BytesIn w B A xs) (k : Nat) : BytesIn w B A (xs.take k) := fun j x hx => by
  rw [List.getElem?_take] at hx
  split at hx
  · exact h j x hx
  · cases hx
theorem BytesIn.at_ {w : World} {B : Nat} {A : Option Addr} {xs : List Int} (h : BytesIn w B A xs) {k : Nat} (hk : k < xs.length) : ∃ ad, A = some ad ∧ ad.block < B ∧ w.cell? (ad.add k) = some (.int .u8 (xs.getD k 0)) := by
  obtain ⟨ad, e, hb, hc⟩ := h k _ (List.getElem?_eq_getElem hk)
  refine ⟨ad, e, hb, ?_⟩
  rw [hc, List.getD_eq_getElem?_getD, List.getElem?_eq_getElem hk]
  rfl

/-- nothing that was there has turned but the blocks A and S -/
structure Besides (A S : Nat) (w w' : World) : Prop where
  os : w'.os = w.os
  tape : w'.tape = w.tape
  output : w'.output = w.output
  size : w.heap.size ≤ w'.heap.size
  block : ∀ b, b < w.heap.size → b ≠ A → b ≠ S → w'.heap[b]? = w.heap[b]?
theorem Besides.refl (A S : Nat) (w : World) : Besides A S w w := ⟨rfl, rfl, rfl, Nat.le_refl _, fun _ _ _ _ => rfl⟩
theorem Besides.trans {A S : Nat} {a b c : World} (h : Besides A S a b) (k : Besides A S b c) : Besides A S a c :=
  ⟨k.os.trans h.os, k.tape.trans h.tape, k.output.trans h.output, Nat.le_trans h.size k.size, fun i hi n1 n2 => (k.block i (Nat.lt_of_lt_of_le hi h.size) n1 n2).trans (h.block i hi n1 n2)⟩
theorem Besides.of_below {A S : Nat} {w w' : World} (h : Below w.heap.size w w') : Besides A S w w' := ⟨h.os, h.tape, h.output, h.size, fun b hb _ _ => h.block b hb⟩
theorem Besides.alloc {A S : Nat} {a w : World} (h : Besides A S a w) (o : Obj) : Besides A S a (w.alloc o) :=
  h.trans (.of_below (Below.alloc (Below.refl _ _) (Nat.le_refl _) o))
theorem Besides.setCell {A S : Nat} {a w : World} (h : Besides A S a w) {p : Addr} (hp : p.block = A ∨ p.block = S ∨ a.heap.size ≤ p.block) (u : Value) : Besides A S a (w.setCell p u) :=
  ⟨h.os, h.tape, h.output, by simpa [World.setCell] using h.size, fun b hb n1 n2 => (Below.heap_setCell w p u b (by rcases hp with e | e | e <;> omega)).trans (h.block b hb n1 n2)⟩
theorem Besides.below {A S B : Nat} {w w' : World} (h : Besides A S w w') (hA : B ≤ A) (hS : B ≤ S) (hB : B ≤ w.heap.size) : Below B w w' :=
  ⟨h.os, h.tape, h.output, h.size, fun b hb => h.block b (by omega) (by omega) (by omega)⟩

/-- a block known whole -/
def Row (w : World) (g : Nat) (t : TypeId) (cs : Array Value) : Prop := w.heap[g]? = some (.cells cs t (0, 0))
theorem Row.lt {w : World} {g : Nat} {t : TypeId} {cs : Array Value} (h : Row w g t cs) : g < w.heap.size := (Array.getElem?_eq_some_iff.1 h).1
theorem Row.cell {w : World} {g : Nat} {t : TypeId} {cs : Array Value} (h : Row w g t cs) (i : Nat) : w.cell? ⟨g, i, none⟩ = cs[i]? := by simp [World.cell?, show w.heap[g]? = _ from h]
theorem Row.frozen {w : World} {g : Nat} {t : TypeId} {cs : Array Value} (h : Row w g t cs) (i : Nat) : w.frozen? ⟨g, i, none⟩ = false := by simp [World.frozen?, show w.heap[g]? = _ from h]
theorem Row.new (w : World) (t : TypeId) (cs : Array Value) : Row (w.alloc (.cells cs t)) w.heap.size t cs := World.alloc_heap_new w _
theorem Row.of {w w' : World} {g : Nat} {t : TypeId} {cs : Array Value} (h : Row w g t cs) (k : w'.heap[g]? = w.heap[g]?) : Row w' g t cs := k.trans h
theorem Row.alloc {w : World} {g : Nat} {t : TypeId} {cs : Array Value} (h : Row w g t cs) (o : Obj) : Row (w.alloc o) g t cs := (Below.heap_alloc w o g h.lt).trans h
theorem Row.set {w : World} {g : Nat} {t : TypeId} {cs : Array Value} (h : Row w g t cs) (i : Nat) (u : Value) : Row (w.setCell ⟨g, i, none⟩ u) g t (cs.setIfInBounds i u) := by
  unfold Row at h ⊢
  simp [World.setCell, Array.getElem?_modify, h]
theorem Row.far {w : World} {g : Nat} {t : TypeId} {cs : Array Value} (h : Row w g t cs) {p : Addr} (hp : g ≠ p.block) (u : Value) : Row (w.setCell p u) g t cs := (Below.heap_setCell w p u g hp).trans h
theorem Row.besides {A S : Nat} {w w' : World} {g : Nat} {t : TypeId} {cs : Array Value} (h : Row w g t cs) (k : Besides A S w w') (hA : g ≠ A) (hS : g ≠ S) : Row w' g t cs := (k.block g h.lt hA hS).trans h
theorem Row.below {B : Nat} {w w' : World} {g : Nat} {t : TypeId} {cs : Array Value} (h : Row w g t cs) (k : Below B w w') (hB : g < B) : Row w' g t cs := (k.block g hB).trans h
end Go.Proofs.Ytahnejcfengljaa
