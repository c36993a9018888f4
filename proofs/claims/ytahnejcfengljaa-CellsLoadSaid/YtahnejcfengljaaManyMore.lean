/- Walks over several blocks (XMany): regions that make memory in any order, new blocks, loops. Nothing of the program. -/
import Derived.Test.YtahnejcfengljaaMany
import Derived.Test.YtahnejcfengljaaBoxed
import Derived.Deep.LoopGhost
namespace Go.Proofs.Ytahnejcfengljaa
open Go.RowKit
set_option linter.unusedVariables false

section
variable {P : Program} {ops : Array Oper} {Q : Exit → Act → World → Prop} {base : List Value} {rest : List Oper} {l : Slots} {w w0 : World} {rs : List RowK} {L : List Nat}
/- regions that make memory -/
def litL (p : Nat → Nat) : Plan → Nat → Slots → Slots
  | [], _, l => l
  | (some d, x) :: r, k, l => litL p r (k + 1) ((d, x.value p k) :: l)
  | (none, _) :: r, k, l => litL p r (k + 1) l
theorem litL_eq (base : List Value) (p : Nat → Nat) : ∀ (M : Plan) (k : Nat) (l : Slots), layL p M k (actO base l).tmps = (actO base (litL p M k l)).tmps
  | [], _, _ => rfl
  | (some d, x) :: r, k, l => by
    have := litL_eq base p r (k + 1) ((d, x.value p k) :: l)
    rw [litL, ← this, layL]
    congr 1
    exact congrArg Act.tmps (put_actO base l (some d) (x.value p k))
  | (none, _) :: r, k, l => litL_eq base p r (k + 1) l
theorem litL_in {n : Nat} (p : Nat → Nat) : ∀ (M : Plan) (k : Nat) (l : Slots), M.all (fun x => dstO x.1 n) = true → inO n l → inO n (litL p M k l)
  | [], _, _, _, h => h
  | (some d, x) :: r, k, l, ha, h => by
    simp only [List.all_cons, Bool.and_eq_true] at ha
    exact litL_in p r (k + 1) _ ha.2 (inO_put (d := some d) (v := x.value p k) ha.1 h)
  | (none, _) :: r, k, l, ha, h => by
    simp only [List.all_cons, Bool.and_eq_true] at ha
    exact litL_in p r (k + 1) l ha.2 h
theorem litA_eq (M : Plan) (p : Nat → Nat) : litA M (actO base l) p = actO base (litL p M 0 l) := by
  unfold litA
  rw [litL_eq]
  rfl
theorem actO_size : (actO base l).tmps.size = base.length := by
  show (ovO base l).toArray.size = _
  rw [List.size_toArray, ovO_length]
/-- a region that makes memory, in whatever order -/
theorem coBox {id : Nat} {y : Code} (M : Plan) (hobs : Obs P ops M (actO base l) w 0 ops.toList M) (hend : ∀ (p : Nat → Nat) w', BoxEnd M w p w' → CO P y Q base (litL p M 0 l) w')
    (hm : P.follows .mixedOrders = true := by kernel_rfl) (hB : planB ops M base.length = true := by kernel_rfl) (hd : M.all (fun x => dstO x.1 base.length) = true := by kernel_rfl) : CO P (.seq (.region id ops true) y) Q base l w :=
  ⟨fun hi => wp_seq (region_boxed M hm (by rw [actO_size]; exact hB) hobs fun p w' hb => by rw [litA_eq]; exact (hend p w' hb).h (litL_in p M 0 l hd hi))⟩
/-- .. in the order of the text -/
theorem coBoxR {id : Nat} {y : Code} (M : Plan) (hobs : Obs P ops M (actO base l) w 0 ops.toList M) (hend : ∀ (p : Nat → Nat) w', BoxEnd M w p w' → CO P y Q base (litL p M 0 l) w')
    (hB : planB ops M base.length = true := by kernel_rfl) (hd : M.all (fun x => dstO x.1 base.length) = true := by kernel_rfl) : CO P (.seq (.region id ops false) y) Q base l w :=
  ⟨fun hi => wp_seq (region_row M (by rw [actO_size]; exact hB) hobs fun p w' hb => by rw [litA_eq]; exact (hend p w' hb).h (litL_in p M 0 l hd hi))⟩
/-- one more block -/
theorem Many.add {b : Nat} {t : TypeId} {cells : Array Value} (h : Many w0 L rs w) (hr : Row w b t cells) (hb : w0.heap.size ≤ b) (hne : ∀ (i : Nat) (r : RowK), rs[i]? = some r → r.b ≠ b) : Many w0 L (rs ++ [⟨b, t, cells.toList.map some⟩]) w := by
  have at_ : ∀ (i : Nat) (r : RowK), (rs ++ [⟨b, t, cells.toList.map some⟩])[i]? = some r → rs[i]? = some r ∨ (i = rs.length ∧ r = ⟨b, t, cells.toList.map some⟩) := fun i r hr => by
    by_cases hi : i < rs.length
    · rw [List.getElem?_append_left hi] at hr; exact .inl hr
    · rw [List.getElem?_append_right (by omega)] at hr
      cases hk : i - rs.length with
      | zero => rw [hk] at hr; injection hr with hr; exact .inr ⟨by omega, hr.symm⟩
      | succ n => rw [hk] at hr; cases hr
  refine ⟨fun i r hi => ?_, fun i j r q hi hj hij => ?_, fun i r hi => ?_, h.touch⟩
  · rcases at_ i r hi with h1 | ⟨_, rfl⟩
    · exact h.rows i r h1
    · exact ⟨cells, hr, by simp, fun k v hv => by
        have : cells.toList[k]? = some v := by
          rw [List.getElem?_map] at hv
          cases hl : cells.toList[k]? with
          | none => rw [hl] at hv; cases hv
          | some u => rw [hl] at hv; injection hv with hv
        simpa using this⟩
  · rcases at_ i r hi with h1 | ⟨e1, rfl⟩ <;> rcases at_ j q hj with h2 | ⟨e2, rfl⟩
    · exact h.dis i j r q h1 h2 hij
    · exact hne i r h1
    · exact (hne j q h2).symm
    · omega
  · rcases at_ i r hi with h1 | ⟨_, rfl⟩
    · exact h.own i r h1
    · exact .inr hb
theorem Many.lt (h : Many w0 L rs w) (i : Nat) (r : RowK) (hr : rs[i]? = some r) : r.b < w.heap.size := by obtain ⟨full, h1, _⟩ := h.rows i r hr; exact h1.lt
/-- a block that was made behind -/
theorem Many.fresh {w' : World} {b : Nat} {t : TypeId} {cells : Array Value} (h : Many w0 L rs w) (k : Below w.heap.size w w') (hr : Row w' b t cells) (hb : w.heap.size ≤ b) : Many w0 L (rs ++ [⟨b, t, cells.toList.map some⟩]) w' :=
  (h.below k).add hr (Nat.le_trans h.touch.size hb) fun i r hi => Nat.ne_of_lt (Nat.lt_of_lt_of_le (h.lt i r hi) hb)
theorem Many.row (h : Many w0 L rs w) (i : Nat) {b : Nat} {t : TypeId} (vs : List Value) (e : rs[i]? = some ⟨b, t, vs.map some⟩) : Row w b t vs.toArray := by
  obtain ⟨full, h1, h2⟩ := h.rows i _ e
  have hfull : full = vs.toArray := by
    apply Array.ext_getElem?
    intro k
    by_cases hk : k < vs.length
    · have : (vs.map some)[k]? = some (some vs[k]) := by rw [List.getElem?_map, List.getElem?_eq_getElem hk]; rfl
      rw [h2.at_ k _ this]
      simp [hk]
    · have hs := h2.size
      rw [List.length_map] at hs
      rw [Array.getElem?_eq_none (by omega)]
      simp [hk]
  rw [← hfull]; exact h1
/-- the first blocks alone -/
theorem Many.take (h : Many w0 L rs w) (n : Nat) (rs' : List RowK) (e : rs.take n = rs' := by kernel_rfl) : Many w0 L rs' w := by
  have at_ : ∀ (i : Nat) (r : RowK), rs'[i]? = some r → rs[i]? = some r := fun i r hr => by
    rw [← e, List.getElem?_take] at hr
    split at hr
    · exact hr
    · cases hr
  exact ⟨fun i r hi => h.rows i r (at_ i r hi), fun i j r q hi hj hij => h.dis i j r q (at_ i r hi) (at_ j q hj) hij, fun i r hi => h.own i r (at_ i r hi), h.touch⟩
/-- a block that was there, and may turn -/
theorem Many.start {b : Nat} {t : TypeId} {cells : Array Value} (hr : Row w b t cells) : Many w [b] [⟨b, t, cells.toList.map some⟩] w := by
  have at_ : ∀ (i : Nat) (r : RowK), ([⟨b, t, cells.toList.map some⟩] : List RowK)[i]? = some r → i = 0 ∧ r = ⟨b, t, cells.toList.map some⟩ := fun i r hi => by
    cases i with
    | zero => simp at hi; exact ⟨rfl, hi.symm⟩
    | succ i => simp at hi
  refine ⟨fun i r hi => ?_, fun i j r q hi hj hij => ?_, fun i r hi => ?_, .refl ..⟩
  · obtain ⟨-, rfl⟩ := at_ i r hi
    exact ⟨cells, hr, by simp, fun k v hv => by
      have : cells.toList[k]? = some v := by
        rw [List.getElem?_map] at hv
        cases hl : cells.toList[k]? with
        | none => rw [hl] at hv; cases hv
        | some u => rw [hl] at hv; injection hv with hv
      simpa using this⟩
  · have h1 := (at_ i r hi).1
    have h2 := (at_ j q hj).1
    omega
  · obtain ⟨-, rfl⟩ := at_ i r hi
    exact .inl (by simp)
theorem Touch.under {b n : Nat} {w w' w1 : World} (h : Touch [b] w w') (k : Below n w1 w) (hb : n ≤ b) (hn : n ≤ w.heap.size) : Below n w1 w' :=
  ⟨h.os.trans k.os, h.tape.trans k.tape, h.output.trans k.output, Nat.le_trans k.size h.size, fun i hi => (h.block i (Nat.lt_of_lt_of_le hi hn) (by simp; omega)).trans (k.block i hi)⟩
/-- the slots as they are, as a function -/
abbrev slotsO (base : List Value) (l : Slots) : Nat → Value := fun i => (ovO base l).getD i undef
/- loops -/
/-- the slots, laid anew -/
theorem coBase {c : Code} (base' : List Value) (h : CO P c Q base' [] w) (e : ovO base l = base' := by kernel_rfl) : CO P c Q base l w := ⟨fun hi => by
  have := h.h trivial
  have e2 : actO base' [] = actO base l := by rw [← e]; rfl
  rwa [e2] at this⟩
/-- what holds between two rounds: the slots are those of some x of which I holds, and less is left -/
def Round {α : Type} (B : α → List Value) (I : α → World → Prop) (μ : α → Nat) (x : α) (a : Act) (w : World) : Prop := ∃ x', a = actO (B x') [] ∧ I x' w ∧ μ x' < μ x
theorem coLoop {α : Type} {c : Code} (B : α → List Value) (I : α → World → Prop) (μ : α → Nat) (x0 : (Nat → Value) → α) (h0 : I (x0 (slotsO base l)) w) (round : ∀ x w, I x w → CO P c (Exit.then (Round B I μ x) Q) (B x) [] w) (e : ovO base l = B (x0 (slotsO base l)) := by kernel_rfl) : CO P (.loop c) Q base l w := ⟨fun hi => by
  have e2 : actO base l = actO (B (x0 (slotsO base l))) [] := by rw [← e]; rfl
  refine wp_loop_ghost (fun n a w => ∃ x, μ x = n ∧ a = actO (B x) [] ∧ I x w) (μ (x0 (slotsO base l))) ⟨_, rfl, e2, h0⟩ ?_
  rintro n a w1 ⟨x, rfl, rfl, hx⟩
  refine wp_mono ((round x w1 hx).h trivial) ?_
  intro e a' w' hq
  cases e with
  | normal =>
    obtain ⟨x', h1, h2, h3⟩ := hq
    exact ⟨μ x', h3, x', rfl, h1, h2⟩
  | _ => exact hq⟩
/-- a round's end -/
theorem eoRound {α : Type} {B : α → List Value} {I : α → World → Prop} {μ : α → Nat} {x : α} (x' : (Nat → Value) → α) (hI : I (x' (slotsO base l)) w) (hμ : μ (x' (slotsO base l)) < μ x) (e : ovO base l = B (x' (slotsO base l)) := by kernel_rfl) : EO (Exit.then (Round B I μ x) Q) .normal base l w :=
  ⟨fun hi => ⟨x' (slotsO base l), by rw [← e]; rfl, hI, hμ⟩⟩
end
end Go.Proofs.Ytahnejcfengljaa
