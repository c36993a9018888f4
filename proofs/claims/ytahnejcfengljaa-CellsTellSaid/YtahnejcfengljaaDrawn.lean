/- Regions that draw their order, over any condition on the world: plain operations worked out by the kernel, told ones, calls, two that may come up at once. Nothing of the program. -/
import Derived.Test.YtahnejcfengljaaManyOwn
namespace Go.Proofs.Ytahnejcfengljaa
open Go.RowKit
set_option linter.unusedVariables false

structure EvQ where
  ok : Bool
  l : Slots
  fs : List ((World → Result Next) × (World → Result Next))
def evq (P : Program) (ops : Array Oper) (W : World) (n : Nat) (base : List Value) : List Oper → Slots → List ((World → Result Next) × (World → Result Next)) → EvQ
  | [], l, fs => ⟨true, l, fs⟩
  | o :: r, l, fs => match wantO ops n base l o with
    | some true => match evP P W n base l o with
      | some (l', gs) => evq P ops W n base r l' (gs ++ fs)
      | none => ⟨false, l, fs⟩
    | some false => match o.dst with
      | some d => bif Nat.blt d n then evq P ops W n base r ((d, undef) :: l) fs else ⟨false, l, fs⟩
      | none => ⟨false, l, fs⟩
    | none => ⟨false, l, fs⟩
def okQ (E : EvQ) : Prop := (E.ok, E.fs.map (·.1)) = (true, E.fs.map (·.2))
section
variable {P : Program} {ops : Array Oper} {Q : Exit → Act → World → Prop} {S : World → Prop} {base : List Value} {l : Slots} {w w0 : World} {o : Oper}
theorem evq_mem {W : World} : ∀ (os : List Oper) (l : Slots) (fs), (evq P ops W base.length base os l fs).ok = true → ∀ x ∈ fs, x ∈ (evq P ops W base.length base os l fs).fs
  | [], _, _, _ => fun _ h => h
  | o :: r, l, fs, hok => by
    unfold evq at hok ⊢
    split at hok
    · split at hok
      · rename_i l' gs he
        exact fun x hx => evq_mem r l' (gs ++ fs) hok x (List.mem_append_right _ hx)
      · cases hok
    · split at hok
      · rename_i d hd
        cases hn : Nat.blt d base.length <;> rw [hn] at hok
        · cases hok
        · exact evq_mem r _ fs hok
      · cases hok
    · cases hok
theorem pure_run {W : World} {n : Nat} (hB : partB ops n = true) (hQ : ∀ d v c a w, Q (.panic c) (a.put d v) w → Q (.panic c) a w) :
    ∀ (is : List Nat) (f : Nat) (listed : Array Bool) (l : Slots) (fs) (w : World), (evq P ops W base.length base (atO ops is) l fs).ok = true → (∀ x ∈ (evq P ops W base.length base (atO ops is) l fs).fs, x.1 = x.2) →
    ordB ops n is listed = true → S w → PO P ops Q S n base f (setO is listed) (evq P ops W base.length base (atO ops is) l fs).l w → PO P ops Q S n base (f + is.length) listed l w
  | [], f, listed, l, fs, w, _, _, _, _, h => h
  | i :: r, f, listed, l, fs, w, hok, hf, ho, hS, h => by
    simp only [ordB, Bool.and_eq_true] at ho
    obtain ⟨h1, h2, h3, h4, h5⟩ := ho
    obtain ⟨o, hoi⟩ := Option.isSome_iff_exists.1 h1
    have hat : atO ops (i :: r) = o :: atO ops r := by rw [atO, hoi]
    rw [hat] at hok hf h
    unfold evq at hok hf h
    split at hok
    case h_2 hw =>
      simp only [hw] at hf h
      split at hok
      · rename_i d hd
        simp only [hd] at hf h
        cases hn : Nat.blt d base.length <;> rw [hn] at hok
        · cases hok
        · simp only [hn, cond_true] at hf h
          have := pure_run hB hQ r f (listed.setIfInBounds i true) _ fs w hok hf h5 hS h
          refine ⟨fun hi => part_skip d hd hoi hB h2 h3 h4 (by rw [hd]; exact hQ (some d) undef) (wantO_sound hw hi) hS ?_⟩
          rw [put_actO]
          exact this.h ⟨by simpa [Nat.blt_eq] using hn, hi⟩
      · cases hok
    case h_3 => cases hok
    case h_1 hw =>
    simp only [hw] at hf h
    split at hok
    · rename_i l' gs he
      simp only [he] at hf h
      have hm := evq_mem (atO ops r) l' (gs ++ fs) hok
      have key : ∃ d v, o.dst = some d ∧ Nat.blt d base.length = true ∧ l' = (d, v) :: l ∧ ∀ w', (execOp (evO base l) o).run P w' = .ok (.value v) w' := by
        unfold evP at he
        split at he
        · rename_i d x hd hop
          cases hlt : Nat.blt d base.length <;> rw [hlt] at he
          · cases he
          · injection he with he; injection he with e1 e2
            exact ⟨d, _, hd, hlt, e1.symm, fun w' => exMove (.inl hop) w'⟩
        · rename_i d x hd hop
          cases hlt : Nat.blt d base.length <;> rw [hlt] at he
          · cases he
          · injection he with he; injection he with e1 e2
            exact ⟨d, _, hd, hlt, e1.symm, fun w' => exMove (.inr hop) w'⟩
        · rename_i d hd n1 n2
          split at he
          · rename_i v w1 hv
            cases hlt : Nat.blt d base.length <;> rw [hlt] at he
            · cases he
            · injection he with he; injection he with e1 e2
              exact ⟨d, v, hd, hlt, e1.symm, fun w' => congrFun (hf _ (hm _ (List.mem_append_left _ (by rw [← e2]; exact List.mem_cons_self)))) w'⟩
          · cases he
        · cases he
      obtain ⟨d, v, hd, hn, el, hv⟩ := key
      have := pure_run hB hQ r f (listed.setIfInBounds i true) l' (gs ++ fs) w hok hf h5 hS h
      rw [el] at this
      refine ⟨fun hi => part_take d v hd hoi hB h2 h3 h4 (by rw [hd]; exact hQ (some d) v) (wantO_sound hw hi) (fun w' hs => by rw [evO_eq hi]; exact hv w') hS ?_⟩
      rw [put_actO]
      exact this.h ⟨by simpa [Nat.blt_eq] using hn, hi⟩
    · cases hok
/-- plain operations, in the order told -/
theorem qM {n f : Nat} {listed : Array Bool} (is : List Nat) (hS : S w) (h : PO P ops Q S n base (f - is.length) (setO is listed) (evq P ops w base.length base (atO ops is) l []).l w)
    (hk : okQ (evq P ops w base.length base (atO ops is) l []) := by unfold okQ; kernel_rfl) (ha : (ordB ops n is listed && (partB ops n && Nat.ble is.length f)) = true := by kernel_rfl)
    (hQ : ∀ d v c a w, Q (.panic c) (a.put d v) w → Q (.panic c) a w := by intro d _ _ _ _ h; cases d <;> exact h) : PO P ops Q S n base f listed l w := by
  simp only [Bool.and_eq_true] at ha
  obtain ⟨a2, a3, a4⟩ := ha
  simp only [okQ, Prod.mk.injEq] at hk
  obtain ⟨h1, h3⟩ := hk
  have hle : is.length ≤ f := by simpa using a4
  have := pure_run (S := S) (base := base) (W := w) a3 hQ is (f - is.length) listed l [] w h1 (pairs_eq h3) a2 hS h
  rwa [Nat.sub_add_cancel hle] at this
def opNo (ops : Array Oper) (i : Nat) : Oper := (ops[i]?).getD { dst := none, op := .move (.const undef), type := 0, pos := "", after := #[], guard := none }
theorem opNo_eq {ops : Array Oper} {i : Nat} (h : (ops[i]?).isSome = true) : ops[i]? = some (opNo ops i) := by
  unfold opNo
  cases e : ops[i]? with
  | none => rw [e] at h; cases h
  | some o => rfl
/-- an operation told, in every world that meets S -/
theorem qT {n f : Nat} {listed : Array Bool} {V : Value} (i : Nat) (hS : S w) (he : ∀ w', S w' → (execOp (evO base l) (opNo ops i)).run P w' = .ok (.value V) w') (h : PO P ops Q S n base (f - 1) (listed.setIfInBounds i true) (putO (opNo ops i).dst V l) w)
    (hd : ((opNo ops i).dst.isSome, dstO (opNo ops i).dst base.length, wantO ops base.length base l (opNo ops i)) = (true, true, some true) := by kernel_rfl) (ha : (ordB ops n [i] listed && (partB ops n && Nat.blt 0 f)) = true := by kernel_rfl)
    (hQ : ∀ d v c a w, Q (.panic c) (a.put d v) w → Q (.panic c) a w := by intro d _ _ _ _ h; cases d <;> exact h) : PO P ops Q S n base f listed l w := by
  simp only [Prod.mk.injEq] at hd
  obtain ⟨d1, d2, d3⟩ := hd
  simp only [ordB, Bool.and_eq_true] at ha
  obtain ⟨⟨a1, a2, a3, a4, -⟩, a5, a6⟩ := ha
  have ho := opNo_eq a1
  obtain ⟨d, hd⟩ := Option.isSome_iff_exists.1 d1
  have hf : f = (f - 1) + 1 := by have : 0 < f := by simpa [Nat.blt_eq] using a6
                                  omega
  rw [hf]
  refine ⟨fun hi => part_take d V hd ho a5 a2 a3 a4 (by rw [hd]; exact hQ (some d) V) (wantO_sound d3 hi) (fun w' hs => by rw [evO_eq hi]; exact he w' hs) hS ?_⟩
  rw [← hd, put_actO]
  exact h.h (inO_put d2 hi)
/-- one step of a region that draws its order -/
structure SO (P : Program) (ops : Array Oper) (Q : Exit → Act → World → Prop) (S : World → Prop) (n : Nat) (base : List Value) (f : Nat) (listed : Array Bool) (i : Nat) (l : Slots) (w : World) : Prop where
  h : inO base.length l → i ∈ Region.ready .any ops listed → HeadInv .any ops n listed → i < n ∧ wpOp P ops Q i (fun a' w' => S w' ∧ wpAnyT P .any ops Q S n (tailL P ops Q n) f (listed.setIfInBounds i true) a' w') (actO base l) w
theorem poOne {n f : Nat} {listed : Array Bool} (i : Nat) (h : SO P ops Q S n base (f - 1) listed i l w) (hr : (Region.ready .any ops listed, Nat.blt 0 f) = ([i], true) := by kernel_rfl) : PO P ops Q S n base f listed l w := by
  simp only [Prod.mk.injEq] at hr
  have hf : f = (f - 1) + 1 := by have : 0 < f := by simpa [Nat.blt_eq] using hr.2
                                  omega
  rw [hf]
  refine ⟨fun hi inv => ⟨by rw [hr.1]; simp, fun k hk => ?_⟩⟩
  have hk' := hk
  rw [hr.1] at hk
  obtain rfl : k = i := by simpa using hk
  exact h.h hi hk' inv
theorem poTwo {n f : Nat} {listed : Array Bool} (i j : Nat) (h : SO P ops Q S n base (f - 1) listed i l w) (h2 : SO P ops Q S n base (f - 1) listed j l w) (hr : (Region.ready .any ops listed, Nat.blt 0 f) = ([i, j], true) := by kernel_rfl) : PO P ops Q S n base f listed l w := by
  simp only [Prod.mk.injEq] at hr
  have hf : f = (f - 1) + 1 := by have : 0 < f := by simpa [Nat.blt_eq] using hr.2
                                  omega
  rw [hf]
  refine ⟨fun hi inv => ⟨by rw [hr.1]; simp, fun k hk => ?_⟩⟩
  have hk' := hk
  rw [hr.1] at hk
  have : k = i ∨ k = j := by simpa using hk
  rcases this with rfl | rfl
  · exact h.h hi hk' inv
  · exact h2.h hi hk' inv
/-- .. an operation told, in this world -/
theorem soV {n f i : Nat} {listed : Array Bool} {V : Value} (hS : S w) (he : (execOp (evO base l) (opNo ops i)).run P w = .ok (.value V) w) (h : PO P ops Q S n base f (listed.setIfInBounds i true) (putO (opNo ops i).dst V l) w)
    (hd : (dstO (opNo ops i).dst base.length, decide (i < n), wantO ops base.length base l (opNo ops i), (ops[i]?).isSome) = (true, true, some true, true) := by kernel_rfl) : SO P ops Q S n base f listed i l w := by
  simp only [Prod.mk.injEq] at hd
  obtain ⟨d1, d2, d3, d4⟩ := hd
  have ho := opNo_eq d4
  refine ⟨fun hi hr inv => ⟨of_decide_eq_true d2, ?_⟩⟩
  unfold wpOp
  simp only [ho, wantO_sound d3 hi, if_true]
  refine .inl ?_
  unfold Oper.wp
  rw [evO_eq hi, he, Oper.upon_value, put_actO]
  exact ⟨hS, h.h (inO_put d1 hi) (inv.set hr (of_decide_eq_true d2))⟩
/-- .. a call -/
theorem soC {n f i : Nat} {listed : Array Bool} {g : FuncId} {args : Array Value} {R : Ending → World → Prop} (hc : Calls P g args w R) (h : ∀ e w', R e w' → ∃ V, e = .returned V ∧ S w' ∧ PO P ops Q S n base f (listed.setIfInBounds i true) (putO (opNo ops i).dst V l) w')
    (hd : (dstO (opNo ops i).dst base.length, decide (i < n), wantO ops base.length base l (opNo ops i), (ops[i]?).isSome) = (true, true, some true, true) := by kernel_rfl) (he : (execOp (evO base l) (opNo ops i)).run P w = .ok (.enter g args) w := by kernel_rfl) : SO P ops Q S n base f listed i l w := by
  simp only [Prod.mk.injEq] at hd
  obtain ⟨d1, d2, d3, d4⟩ := hd
  have ho := opNo_eq d4
  refine ⟨fun hi hr inv => ⟨of_decide_eq_true d2, ?_⟩⟩
  unfold wpOp
  simp only [ho, wantO_sound d3 hi, if_true]
  refine .inl ?_
  unfold Oper.wp
  rw [evO_eq hi, he, Oper.upon_enter]
  refine hc.mono fun e w' hR => ?_
  obtain ⟨V, rfl, hS, hp⟩ := h e w' hR
  dsimp only
  rw [put_actO]
  exact ⟨hS, hp.h (inO_put d1 hi) (inv.set hr (of_decide_eq_true d2))⟩
/-- its beginning: S: nothing that was there at w0 has turned -/
theorem coD {id : Nat} {y : Code} (n : Nat) (hB : Below w0.heap.size w0 w) (h : ∀ w', Below w.heap.size w w' → Below w0.heap.size w0 w' → PO P ops (Exit.then (y.wp P Q) Q) (fun w => Below w0.heap.size w0 w) n base n (Array.replicate ops.size false) l w')
    (hP : partB ops n = true := by kernel_rfl) (hm : P.follows .mixedOrders = true := by kernel_rfl) : CO P (.seq (.region id ops true) y) Q base l w :=
  coP n (hB.trans (((Below.refl w.heap.size w).drew).mono hB.size)) (h _ (Below.refl ..).drew (hB.trans (((Below.refl w.heap.size w).drew).mono hB.size))) hP hm
theorem coDz {id : Nat} (n : Nat) (hB : Below w0.heap.size w0 w) (h : ∀ w', Below w.heap.size w w' → Below w0.heap.size w0 w' → PO P ops Q (fun w => Below w0.heap.size w0 w) n base n (Array.replicate ops.size false) l w')
    (hP : partB ops n = true := by kernel_rfl) (hm : P.follows .mixedOrders = true := by kernel_rfl) : CO P (.region id ops true) Q base l w :=
  coPz n (hB.trans (((Below.refl w.heap.size w).drew).mono hB.size)) (h _ (Below.refl ..).drew (hB.trans (((Below.refl w.heap.size w).drew).mono hB.size))) hP hm
end
end Go.Proofs.Ytahnejcfengljaa
