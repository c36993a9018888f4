/- What a loop over an iterator leaves alone: all cells but two boxes and the row that the first of them holds. Nothing of the program. -/
import Derived.Test.YtlmeekaemhghgaaDoorMem
import Derived.RangeFuncNested
namespace Go.Proofs.YtlmeekaemhghgaaDoor
open Go.RowKit
set_option linter.unusedVariables false

/-- b is the block of the row that the box L holds -/
def RowOf (W : World) (L b : Nat) : Prop := ∃ v, W.cell? ⟨L, 0, none⟩ = some v ∧ v.ownBlock = some b
/-- all cells lie as they lay, but the boxes L and F, and the row that L held; L's row is the old one, or new -/
structure KeepsRest (L F : Nat) (W W' : World) : Prop where
  size : W.heap.size ≤ W'.heap.size
  row : ∀ b, RowOf W' L b → RowOf W L b ∨ W.heap.size ≤ b
  inside : (∀ b, RowOf W L b → b < W.heap.size) → ∀ b, RowOf W' L b → b < W'.heap.size
  cells : ∀ b o, W.heap[b]? = some o → o.isCells = true → b ≠ L → b ≠ F → ¬ RowOf W L b → W'.heap[b]? = some o
theorem KeepsRest.refl (L F : Nat) (W : World) : KeepsRest L F W W := ⟨Nat.le_refl _, fun _ h => .inl h, fun h => h, fun _ _ h _ _ _ _ => h⟩
theorem KeepsRest.trans {L F : Nat} {X Y Z : World} (h : KeepsRest L F X Y) (k : KeepsRest L F Y Z) : KeepsRest L F X Z where
  size := Nat.le_trans h.size k.size
  row := fun b hb => by
    rcases k.row b hb with e | e
    · exact h.row b e
    · exact .inr (Nat.le_trans h.size e)
  inside := fun hi => k.inside (h.inside hi)
  cells := fun b o hb ho n1 n2 n3 => k.cells b o (h.cells b o hb ho n1 n2 n3) ho n1 n2 (fun hr => by
    rcases h.row b hr with e | e
    · exact n3 e
    · have := (Array.getElem?_eq_some_iff.1 hb).1
      omega)
theorem RowOf.congr {W W' : World} {L b : Nat} (e : W'.cell? ⟨L, 0, none⟩ = W.cell? ⟨L, 0, none⟩) : RowOf W' L b ↔ RowOf W L b := by
  unfold RowOf
  rw [e]
theorem KeepsRest.of_block {L F : Nat} {W W' : World} (hs : W.heap.size ≤ W'.heap.size) (hL : W'.heap[L]? = W.heap[L]?) (hc : ∀ (b : Nat) (o : Obj), W.heap[b]? = some o → o.isCells = true → W'.heap[b]? = some o) : KeepsRest L F W W' where
  size := hs
  row := fun b hb => .inl ((RowOf.congr (World.cell?_of_block (a := ⟨L, 0, none⟩) hL)).1 hb)
  inside := fun hi b hb => Nat.lt_of_lt_of_le (hi b ((RowOf.congr (World.cell?_of_block (a := ⟨L, 0, none⟩) hL)).1 hb)) hs
  cells := fun b o hb ho _ _ _ => hc b o hb ho
theorem KeepsRest.of_below {L F : Nat} {W W' : World} (h : Below W.heap.size W W') (hL : L < W.heap.size) : KeepsRest L F W W' :=
  .of_block h.size (h.block L hL) fun b o hb _ => (h.block b (Array.getElem?_eq_some_iff.1 hb).1).trans hb
theorem KeepsRest.putObj {L F : Nat} {B : Nat} (hL : L < B) (W : World) (l : Nat) (o o' : Obj) (hl : B ≤ l) (hw : W.heap[l]? = some o) (hc : o.isCells = false) (_ : o.isWalk = false) : KeepsRest L F W (W.putObj l o') :=
  .of_block (by simp) (World.putObj_heap_other (by omega)) fun b o2 hb ho => by
    rw [World.putObj_heap_other (by rintro rfl; rw [hw] at hb; cases hb; rw [hc] at ho; cases ho)]
    exact hb
theorem cell_isCells {W : World} {p : Addr} {v : Value} (h : W.cell? p = some v) : ∃ o, W.heap[p.block]? = some o ∧ o.isCells = true := by
  unfold World.cell? at h
  cases e : W.heap[p.block]? with
  | none => rw [e] at h; cases h
  | some o =>
    rw [e] at h
    cases o with
    | cells cs t fz => exact ⟨_, rfl, rfl⟩
    | _ => cases h
/-- bytes that lie elsewhere are kept -/
theorem BytesIn.rest {W W' : World} {L F B : Nat} {A : Option Addr} {xs : List Int} (h : BytesIn W B A xs) (k : KeepsRest L F W W') (hL : B ≤ L) (hF : B ≤ F) (hn : ∀ b, b < B → ¬ RowOf W L b) : BytesIn W' B A xs := fun j x hx => by
  obtain ⟨ad, e, hb, hc⟩ := h j x hx
  obtain ⟨o, ho, hi⟩ := cell_isCells hc
  have hb' : (ad.add j).block < B := by rw [add_block]; exact hb
  refine ⟨ad, e, hb, (World.cell?_of_block ?_).trans hc⟩
  rw [k.cells _ o ho hi (by omega) (by omega) (hn _ hb'), ho]
theorem Row.rest {W W' : World} {L F g : Nat} {t : TypeId} {cs : Array Value} (h : Row W g t cs) (k : KeepsRest L F W W') (hL : g ≠ L) (hF : g ≠ F) (hn : ¬ RowOf W L g) : Row W' g t cs := k.cells g _ h rfl hL hF hn
end Go.Proofs.YtlmeekaemhghgaaDoor
