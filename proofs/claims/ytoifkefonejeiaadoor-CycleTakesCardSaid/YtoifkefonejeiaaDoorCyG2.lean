/- Contracts and facts that the claim's proof wants (several texts in one). -/
import Derived.Deep.LoopGhost
import Derived.Maps.AppendAt
import Derived.Laws.OwnMore
import Derived.Test.YtoifkefonejeiaaDoorChecked
import Derived.KernelRfl
import Derived.Laws.AppendOwn
import Derived.Laws.AppendOwnNone
import Derived.OwnWalk
import Derived.Test.YtoifkefonejeiaaDoorCyG1
namespace Go.Proofs.YtoifkefonejeiaaDoor
open Go.RowKit
set_option linter.unusedVariables false
set_option linter.unusedSimpArgs false
set_option maxRecDepth 20000
set_option maxHeartbeats 20000000
structure RowK where
  b : Nat
  t : TypeId
  cs : Cells
def RowsAt (w : World) (rs : List RowK) : Prop := ∀ (i : Nat) (r : RowK), rs[i]? = some r → ∃ full, Row w r.b r.t full ∧ Kn r.cs full
def Dis (rs : List RowK) : Prop := ∀ (i j : Nat) (r q : RowK), rs[i]? = some r → rs[j]? = some q → i ≠ j → r.b ≠ q.b
structure Touch (L : List Nat) (w w' : World) : Prop where
  os : w'.os = w.os
  tape : w'.tape = w.tape
  output : w'.output = w.output
  size : w.heap.size ≤ w'.heap.size
  block : ∀ b, b < w.heap.size → b ∉ L → w'.heap[b]? = w.heap[b]?
theorem Touch.refl (L : List Nat) (w : World) : Touch L w w := ⟨rfl, rfl, rfl, Nat.le_refl _, fun _ _ _ => rfl⟩
theorem Touch.trans {L : List Nat} {a b c : World} (h : Touch L a b) (k : Touch L b c) : Touch L a c :=
  ⟨k.os.trans h.os, k.tape.trans h.tape, k.output.trans h.output, Nat.le_trans h.size k.size, fun i hi n => (k.block i (Nat.lt_of_lt_of_le hi h.size) n).trans (h.block i hi n)⟩
theorem Touch.below {w w' : World} (h : Touch [] w w') : Below w.heap.size w w' := ⟨h.os, h.tape, h.output, h.size, fun b hb => h.block b hb (by simp)⟩
theorem Touch.of_below {L : List Nat} {w w' : World} (h : Below w.heap.size w w') : Touch L w w' := ⟨h.os, h.tape, h.output, h.size, fun b hb _ => h.block b hb⟩
structure Many (w0 : World) (L : List Nat) (rs : List RowK) (w : World) : Prop where
  rows : RowsAt w rs
  dis : Dis rs
  own : ∀ (i : Nat) (r : RowK), rs[i]? = some r → r.b ∈ L ∨ w0.heap.size ≤ r.b
  touch : Touch L w0 w
theorem Many.begin (w : World) : Many w [] [] w := ⟨fun i r h => by simp at h, fun i j r q h => by simp at h, fun i r h => by simp at h, .refl ..⟩
theorem Many.below {w0 w w' : World} {L : List Nat} {rs : List RowK} (h : Many w0 L rs w) (k : Below w.heap.size w w') : Many w0 L rs w' :=
  ⟨fun i r hr => by obtain ⟨full, h1, h2⟩ := h.rows i r hr; exact ⟨full, h1.below k h1.lt, h2⟩, h.dis, h.own, h.touch.trans (.of_below k)⟩
theorem Many.alloc {w0 w : World} {L : List Nat} {rs : List RowK} (h : Many w0 L rs w) (t : TypeId) (cells : Array Value) : Many w0 L (rs ++ [⟨w.heap.size, t, cells.toList.map some⟩]) (w.alloc (.cells cells t)) := by
  have lt : ∀ (i : Nat) (r : RowK), rs[i]? = some r → r.b < w.heap.size := fun i r hr => by obtain ⟨full, h1, _⟩ := h.rows i r hr; exact h1.lt
  have at_ : ∀ (i : Nat) (r : RowK), (rs ++ [⟨w.heap.size, t, cells.toList.map some⟩])[i]? = some r → rs[i]? = some r ∨ (i = rs.length ∧ r = ⟨w.heap.size, t, cells.toList.map some⟩) := fun i r hr => by
    by_cases hi : i < rs.length
    · rw [List.getElem?_append_left hi] at hr; exact .inl hr
    · rw [List.getElem?_append_right (by omega)] at hr
      cases hk : i - rs.length with
      | zero => rw [hk] at hr; injection hr with hr; exact .inr ⟨by omega, hr.symm⟩
      | succ n => rw [hk] at hr; cases hr
  refine ⟨fun i r hr => ?_, fun i j r q hr hq hij => ?_, fun i r hr => ?_, h.touch.trans (.of_below (Below.alloc (Below.refl _ _) (Nat.le_refl _) _))⟩
  · rcases at_ i r hr with h1 | ⟨_, rfl⟩
    · obtain ⟨full, h1, h2⟩ := h.rows i r h1
      exact ⟨full, h1.alloc _, h2⟩
    · exact ⟨cells, Row.new w t cells, by simp, fun k v hv => by
        have : cells.toList[k]? = some v := by
          rw [List.getElem?_map] at hv
          cases hl : cells.toList[k]? with
          | none => rw [hl] at hv; cases hv
          | some u => rw [hl] at hv; injection hv with hv
        simpa using this⟩
  · rcases at_ i r hr with h1 | ⟨e1, rfl⟩ <;> rcases at_ j q hq with h2 | ⟨e2, rfl⟩
    · exact h.dis i j r q h1 h2 hij
    · exact Nat.ne_of_lt (lt i r h1)
    · exact (Nat.ne_of_lt (lt j q h2)).symm
    · omega
  · rcases at_ i r hr with h1 | ⟨_, rfl⟩
    · exact h.own i r h1
    · exact .inr h.touch.size
theorem Many.turn {w0 w w' : World} {L : List Nat} {rs : List RowK} {i : Nat} {r : RowK} {cs : Cells} {full : Array Value} (h : Many w0 L rs w) (hr : rs[i]? = some r) (hrow : Row w' r.b r.t full) (hk : Kn cs full) (hb : Besides r.b r.b w w') : Many w0 L (rs.set i ⟨r.b, r.t, cs⟩) w' := by
  have hi : i < rs.length := (List.getElem?_eq_some_iff.1 hr).1
  have at_ : ∀ (j : Nat) (q : RowK), (rs.set i ⟨r.b, r.t, cs⟩)[j]? = some q → (i = j ∧ q = ⟨r.b, r.t, cs⟩) ∨ (i ≠ j ∧ rs[j]? = some q) := fun j q hq => by
    by_cases e : i = j
    · subst e
      rw [List.getElem?_set_self hi] at hq
      injection hq with hq
      exact .inl ⟨rfl, hq.symm⟩
    · rw [List.getElem?_set_ne e] at hq
      exact .inr ⟨e, hq⟩
  refine ⟨fun j q hq => ?_, fun j k q s hq hs hjk => ?_, fun j q hq => ?_, ⟨hb.os.trans h.touch.os, hb.tape.trans h.touch.tape, hb.output.trans h.touch.output, Nat.le_trans h.touch.size hb.size, fun c hc hn => ?_⟩⟩
  · rcases at_ j q hq with ⟨e, rfl⟩ | ⟨e, h1⟩
    · exact ⟨full, hrow, hk⟩
    · obtain ⟨f2, h2, h3⟩ := h.rows j q h1
      have hne := h.dis i j r q hr h1 e
      exact ⟨f2, h2.of (hb.block q.b h2.lt (Ne.symm hne) (Ne.symm hne)), h3⟩
  · rcases at_ j q hq with ⟨e1, rfl⟩ | ⟨e1, h1⟩ <;> rcases at_ k s hs with ⟨e2, rfl⟩ | ⟨e2, h2⟩
    · omega
    · exact h.dis i k r s hr h2 e2
    · exact h.dis j i q r h1 hr (Ne.symm e1)
    · exact h.dis j k q s h1 h2 hjk
  · rcases at_ j q hq with ⟨e, rfl⟩ | ⟨e, h1⟩
    · exact h.own i r hr
    · exact h.own j q h1
  · have hne : c ≠ r.b := by
      rcases h.own i r hr with e | e
      · exact fun x => hn (x ▸ e)
      · omega
    exact (hb.block c (Nat.lt_of_lt_of_le hc h.touch.size) hne hne).trans (h.touch.block c hc hn)
def newOf (P : Program) (ρ : Operand → Value) : Op → Option ((Nat → Value) × TypeId × Array Value)
  | .alloc t => match P.info? t with
    | some i => match i.zero with | some z => some (fun h => .pointer (some ⟨h, 0, none⟩), t, z.cells) | none => none
    | none => none
  | .box t x => some (fun h => .pointer (some ⟨h, 0, none⟩), t, (ρ x).cells)
  | .buildSlice t len parts => match P.underlying t with
    | some (.slice e) => some (fun h => .slice (some ⟨h, 0, none⟩) len len, e, (parts.toList.map fun q => ρ q.2).toArray)
    | _ => none
  | _ => none
def memO : Op → Bool
  | .load .. | .store .. => true
  | _ => false
structure EvM1 where
  hs : List Nat
  l : Slots
  rs : List RowK
  k : Nat
  fs : List ((World → Result Next) × (World → Result Next))
  bs : List (Nat × Nat)
def evP (P : Program) (W : World) (n : Nat) (base : List Value) (l : Slots) (o : Oper) : Option (Slots × List ((World → Result Next) × (World → Result Next))) :=
  match o.dst, o.op with
  | some d, .move x => bif Nat.blt d n then some ((d, evO base l x) :: l, []) else none
  | some d, .assign x => bif Nat.blt d n then some ((d, evO base l x) :: l, []) else none
  | some d, op => match (execOp (evO base l) o).run P W with
    | .ok (.value v) _ => bif Nat.blt d n then some ((d, v) :: l, [(fun w => (execOp (evO base l) o).run P w, fun w => .ok (.value v) w)]) else none
    | _ => none
  | _, _ => none
def em1 (P : Program) (W : World) (h0 n : Nat) (base : List Value) (l : Slots) (rs : List RowK) (k : Nat) (hs : List Nat) (o : Oper) : Option EvM1 :=
  match newOf P (evO base l) o.op, o.dst with
  | some (mk, t, cells), some d => bif Nat.blt d n then some ⟨hs, (d, mk (h0 + k)) :: l, rs ++ [⟨h0 + k, t, cells.toList.map some⟩], k + 1, [(fun w => (execOp (evO base l) o).run P w, fun w => .ok (.value (mk w.heap.size)) (w.alloc (.cells cells t)))], []⟩ else none
  | some _, none => none
  | none, _ => match memO o.op, hs with
    | true, i :: r => match rs[i]? with
      | some q => match ev1 P W q.b n base l q.cs o with
        | some e => some ⟨r, e.l, rs.set i ⟨q.b, q.t, e.cs⟩, k, e.fs, e.bs⟩
        | none => none
      | none => none
    | true, [] => none
    | false, _ => match evP P W n base l o with
      | some (l', fs) => some ⟨hs, l', rs, k, fs, []⟩
      | none => none
structure EvM where
  ok : Bool
  l : Slots
  rs : List RowK
  k : Nat
  fs : List ((World → Result Next) × (World → Result Next))
  bs : List (Nat × Nat)
def evm (P : Program) (ops : Array Oper) (W : World) (h0 n : Nat) (base : List Value) : List Oper → List Nat → Slots → List RowK → Nat → List ((World → Result Next) × (World → Result Next)) → List (Nat × Nat) → EvM
  | [], _, l, rs, k, fs, bs => ⟨true, l, rs, k, fs, bs⟩
  | o :: r, hs, l, rs, k, fs, bs => match wantO ops n base l o with
    | some true => match em1 P W h0 n base l rs k hs o with
      | some e => evm P ops W h0 n base r e.hs e.l e.rs e.k (e.fs ++ fs) (e.bs ++ bs)
      | none => ⟨false, l, rs, k, fs, bs⟩
    | some false => match o.dst with
      | some d => bif Nat.blt d n then evm P ops W h0 n base r hs ((d, undef) :: l) rs k fs bs else ⟨false, l, rs, k, fs, bs⟩
      | none => ⟨false, l, rs, k, fs, bs⟩
    | none => ⟨false, l, rs, k, fs, bs⟩
section
variable {P : Program} {ops : Array Oper} {Q : Exit → Act → World → Prop} {base : List Value} {rest : List Oper} {l : Slots} {w w0 : World} {o : Oper} {rs : List RowK} {k h0 : Nat} {hs : List Nat} {L : List Nat}
theorem em1_sound {W : World} {e : EvM1} (hg : wantO ops base.length base l o = some true) (he : em1 P W h0 base.length base l rs k hs o = some e) (hf : ∀ x ∈ e.fs, x.1 = x.2) (hb : ∀ x ∈ e.bs, x.1 = x.2) (hm : Many w0 L rs w) (hz : w.heap.size = h0 + k)
    (h : ∀ w', Many w0 L e.rs w' → w'.heap.size = h0 + e.k → WO P ops Q base rest e.l w') : WO P ops Q base (o :: rest) l w := by
  unfold em1 at he
  split at he
  · rename_i mk t cells d hn hd
    cases hlt : Nat.blt d base.length <;> rw [hlt] at he
    · cases he
    · injection he with he; subst he
      have hrun := congrFun (hf _ List.mem_cons_self) w
      have hk := h (w.alloc (.cells cells t)) (by have := hm.alloc t cells; rw [hz] at this; exact this) (by show _ = h0 + (k + 1); rw [World.size_alloc, hz]; omega)
      refine ⟨fun hi => list_make d (mk w.heap.size) hd (wantO_sound hg hi) (w' := w.alloc (.cells cells t)) (by rw [evO_eq hi]; exact hrun) ?_⟩
      rw [put_actO, hz]
      exact hk.h ⟨by simpa [Nat.blt_eq] using hlt, hi⟩
  · cases he
  · split at he
    · rename_i i r hmo
      split at he
      · rename_i q hq
        split at he
        · rename_i e1 he1
          injection he with he; subst he
          obtain ⟨full, hr, hK⟩ := hm.rows i q hq
          exact ev1_sound hg he1 hf hb hr hK fun w' full' _ hs' hr' hK' _ hbe => h w' (hm.turn hq hr' hK' hbe) (hs'.trans hz)
        · cases he
      · cases he
    · cases he
    · rename_i hmo
      split at he
      · rename_i l' fs hp
        injection he with he; subst he
        have hk := h w hm hz
        unfold evP at hp
        split at hp
        · rename_i d x hd ho
          cases hlt : Nat.blt d base.length <;> rw [hlt] at hp
          · cases hp
          · injection hp with hp; injection hp with h1 h2; subst h1
            exact step1 hd hg hlt (exMove (.inl ho) w) hk
        · rename_i d x hd ho
          cases hlt : Nat.blt d base.length <;> rw [hlt] at hp
          · cases hp
          · injection hp with hp; injection hp with h1 h2; subst h1
            exact step1 hd hg hlt (exMove (.inr ho) w) hk
        · rename_i d hd n1 n2
          split at hp
          · rename_i v w1 hv
            cases hlt : Nat.blt d base.length <;> rw [hlt] at hp
            · cases hp
            · injection hp with hp; injection hp with h1 h2; subst h1; subst h2
              exact step1 hd hg hlt (congrFun (hf _ List.mem_cons_self) w) hk
          · cases hp
        · cases hp
      · cases he
theorem evm_mem {W : World} : ∀ (os : List Oper) (hs : List Nat) (l : Slots) (rs : List RowK) (k : Nat) (fs bs), (evm P ops W h0 base.length base os hs l rs k fs bs).ok = true →
    (∀ x ∈ fs, x ∈ (evm P ops W h0 base.length base os hs l rs k fs bs).fs) ∧ (∀ x ∈ bs, x ∈ (evm P ops W h0 base.length base os hs l rs k fs bs).bs)
  | [], _, _, _, _, _, _, _ => ⟨fun _ h => h, fun _ h => h⟩
  | o :: r, hs, l, rs, k, fs, bs, hok => by
    unfold evm at hok ⊢
    split at hok
    · split at hok
      · rename_i e he
        have ih := evm_mem r e.hs e.l e.rs e.k (e.fs ++ fs) (e.bs ++ bs) hok
        exact ⟨fun x hx => ih.1 x (List.mem_append_right _ hx), fun x hx => ih.2 x (List.mem_append_right _ hx)⟩
      · cases hok
    · split at hok
      · rename_i d hd
        cases hn : Nat.blt d base.length <;> rw [hn] at hok
        · cases hok
        · exact evm_mem r hs _ rs k fs bs hok
      · cases hok
    · cases hok
theorem evm_sound {W : World} : ∀ (os : List Oper) (hs : List Nat) (l : Slots) (rs : List RowK) (k : Nat) (fs bs) (w : World), (evm P ops W h0 base.length base os hs l rs k fs bs).ok = true →
    (∀ x ∈ (evm P ops W h0 base.length base os hs l rs k fs bs).fs, x.1 = x.2) → (∀ x ∈ (evm P ops W h0 base.length base os hs l rs k fs bs).bs, x.1 = x.2) → Many w0 L rs w → w.heap.size = h0 + k →
    (∀ w', Many w0 L (evm P ops W h0 base.length base os hs l rs k fs bs).rs w' → WO P ops Q base rest (evm P ops W h0 base.length base os hs l rs k fs bs).l w') → WO P ops Q base (os ++ rest) l w
  | [], _, _, _, _, _, _, w, _, _, _, hm, _, h => h w hm
  | o :: r, hs, l, rs, k, fs, bs, w, hok, hf, hb, hm, hz, h => by
    unfold evm at hok hf hb h
    split at hok
    case h_2 hw =>
      simp only [hw] at hf hb h
      split at hok
      · rename_i d hd
        simp only [hd] at hf hb h
        cases hn : Nat.blt d base.length <;> rw [hn] at hok
        · cases hok
        · simp only [hn, cond_true] at hf hb h
          have := evm_sound r hs _ rs k fs bs w hok hf hb hm hz h
          exact ⟨fun hi => list_skip d hd (wantO_sound hw hi) (by rw [put_actO]; exact this.h ⟨by simpa [Nat.blt_eq] using hn, hi⟩)⟩
      · cases hok
    case h_3 => cases hok
    case h_1 hw =>
    simp only [hw] at hf hb h
    split at hok
    · rename_i e he
      simp only [he] at hf hb h
      have hmm := evm_mem r e.hs e.l e.rs e.k (e.fs ++ fs) (e.bs ++ bs) hok
      exact em1_sound hw he (fun x hx => hf x (hmm.1 x (List.mem_append_left _ hx))) (fun x hx => hb x (hmm.2 x (List.mem_append_left _ hx))) hm hz fun w1 hm1 hz1 => evm_sound r e.hs e.l e.rs e.k (e.fs ++ fs) (e.bs ++ bs) w1 hok hf hb hm1 hz1 h
    · cases hok
def okMn (E : EvM) : Prop := (E.ok, E.fs.map (·.1), E.bs.map (·.1)) = (true, E.fs.map (·.2), E.bs.map (·.2))
abbrev eM (P : Program) (ops : Array Oper) (w : World) (base : List Value) (os : List Oper) (hs : List Nat) (l : Slots) (rs : List RowK) : EvM := evm P ops w w.heap.size base.length base os hs l rs 0 [] []
theorem qR (n : Nat) (hs : List Nat) (hm : Many w0 L rs w) (h : ∀ w', Many w0 L (eM P ops w base (rest.take n) hs l rs).rs w' → WO P ops Q base (rest.drop n) (eM P ops w base (rest.take n) hs l rs).l w')
    (hk : okMn (eM P ops w base (rest.take n) hs l rs) := by unfold okMn; kernel_rfl) : WO P ops Q base rest l w := by
  simp only [okMn, Prod.mk.injEq] at hk
  obtain ⟨h1, h3, h4⟩ := hk
  have := evm_sound (ops := ops) (Q := Q) (rest := rest.drop n) (rest.take n) hs l rs 0 [] [] w h1 (pairs_eq h3) (pairs_eq h4) hm rfl h
  rwa [List.take_append_drop] at this
theorem qF (hs : List Nat) (hm : Many w0 L rs w) (h : ∀ w', Many w0 L (eM P ops w base rest hs l rs).rs w' → EO Q .normal base (eM P ops w base rest hs l rs).l w')
    (hk : okMn (eM P ops w base rest hs l rs) := by unfold okMn; kernel_rfl) : WO P ops Q base rest l w := by
  simp only [okMn, Prod.mk.injEq] at hk
  obtain ⟨h1, h3, h4⟩ := hk
  have := evm_sound (ops := ops) (Q := Q) (rest := []) rest hs l rs 0 [] [] w h1 (pairs_eq h3) (pairs_eq h4) hm rfl fun w' k => woE (h w' k)
  rwa [List.append_nil] at this
theorem qE {y : Code} (hs : List Nat) (hm : Many w0 L rs w) (h : ∀ w', Many w0 L (eM P ops w base rest hs l rs).rs w' → CO P y Q base (eM P ops w base rest hs l rs).l w')
    (hk : okMn (eM P ops w base rest hs l rs) := by unfold okMn; kernel_rfl) : WO P ops (Exit.then (y.wp P Q) Q) base rest l w := qF hs hm (fun w' k => eoT (h w' k)) hk
theorem qQ {y : Code} {id : Nat} (hs : List Nat) (hm : Many w0 L rs w) (h : ∀ w', Many w0 L (eM P rest.toArray w base rest hs l rs).rs w' → CO P y Q base (eM P rest.toArray w base rest hs l rs).l w')
    (hk : okMn (eM P rest.toArray w base rest hs l rs) := by unfold okMn; kernel_rfl) : CO P (.seq (.region id rest.toArray false) y) Q base l w := coR (qE hs hm h hk)
theorem Many.drew (h : Many w0 L rs w) : Many w0 L rs w.drew := h.below (Below.refl ..).drew
theorem qP (n : Nat) {id : Nat} {y : Code} (hm : Many w0 L rs w) (h : ∀ w', Many w0 L rs w' → PO P ops (Exit.then (y.wp P Q) Q) (Many w0 L rs) n base n (Array.replicate ops.size false) l w')
    (hB : partB ops n = true := by kernel_rfl) (hx : P.follows .mixedOrders = true := by kernel_rfl) : CO P (.seq (.region id ops true) y) Q base l w := coP n hm.drew (h _ hm.drew) hB hx
abbrev rowAt (rs : List RowK) (i : Nat) : RowK := (rs[i]?).getD ⟨0, 0, []⟩
theorem qD {n f : Nat} {listed : Array Bool} (i : Nat) (is : List Nat) (hm : Many w0 L rs w) (h : PO P ops Q (Many w0 L rs) n base (f - is.length) (setO is listed) (evs P ops w (rowAt rs i).b base.length base (atO ops is) l (rowAt rs i).cs [] []).l w)
    (hq : (rs[i]?).isSome = true := by kernel_rfl) (hk : okE (evs P ops w (rowAt rs i).b base.length base (atO ops is) l (rowAt rs i).cs [] []) (rowAt rs i).cs := by unfold okE; kernel_rfl) (ha : ((atO ops is).all noSt && (ordB ops n is listed && (partB ops n && Nat.ble is.length f))) = true := by kernel_rfl)
    (hQ : ∀ d v c a w, Q (.panic c) (a.put d v) w → Q (.panic c) a w := by intro d _ _ _ _ h; cases d <;> exact h) : PO P ops Q (Many w0 L rs) n base f listed l w := by
  simp only [Bool.and_eq_true] at ha
  obtain ⟨a1, a2, a3, a4⟩ := ha
  simp only [okE, Prod.mk.injEq] at hk
  obtain ⟨h1, _, h3, h4⟩ := hk
  have hle : is.length ≤ f := by simpa using a4
  obtain ⟨q, hq⟩ := Option.isSome_iff_exists.1 hq
  have e : rowAt rs i = q := by unfold rowAt; rw [hq]; rfl
  have := part_run (cs := (rowAt rs i).cs) (ty := q.t) (base := base) (W := w) a3 hQ (fun w' hs => by rw [e]; exact hs.rows i q hq) is (f - is.length) listed l [] [] w h1 (pairs_eq h3) (pairs_eq h4) a1 a2 hm h
  rwa [Nat.sub_add_cancel hle] at this
theorem qDc {n f : Nat} {listed : Array Bool} {V : Value} {g : FuncId} {args : Array Value} (i : Nat) (hc : Calls P g args w fun e w' => e = .returned V ∧ Below w.heap.size w w') (hm : Many w0 L rs w) (h : ∀ w', Many w0 L rs w' → PO P ops Q (Many w0 L rs) n base (f - 1) (listed.setIfInBounds i true) (putO o.dst V l) w')
    (ho : ops[i]? = some o := by exact rfl) (hr : (Region.ready .any ops listed, decide (i < n), Nat.blt 0 f, wantO ops base.length base l o, dstO o.dst base.length) = ([i], true, true, some true, true) := by kernel_rfl)
    (he : (execOp (evO base l) o).run P w = .ok (.enter g args) w := by kernel_rfl) : PO P ops Q (Many w0 L rs) n base f listed l w := by
  simp only [Prod.mk.injEq] at hr
  obtain ⟨h1, h2, h3, h4, h5⟩ := hr
  have hf : f = (f - 1) + 1 := by have : 0 < f := by simpa [Nat.blt_eq] using h3
                                  omega
  rw [hf]
  exact poCall ho h1 h2 h4 he h5 hc fun e w' ⟨e1, e2⟩ => by subst e1; exact ⟨hm.below e2, h w' (hm.below e2)⟩
theorem qC {V : Value} {g : FuncId} {args : Array Value} (hc : Calls P g args w fun e w' => e = .returned V ∧ Below w.heap.size w w') (hm : Many w0 L rs w) (h : ∀ w', Many w0 L rs w' → WO P ops Q base rest (putO o.dst V l) w')
    (hg : wantO ops base.length base l o = some true := by kernel_rfl) (he : (execOp (evO base l) o).run P w = .ok (.enter g args) w := by kernel_rfl) (hd : dstO o.dst base.length = true := by kernel_rfl) : WO P ops Q base (o :: rest) l w :=
  kO hc (fun w' e => h w' (hm.below e)) hg he hd
end
inductive Pl where
  | val (v : Value)
  | call (v : Value)
  | box (t : TypeId) (z : Array Value) (st : Option (Nat × Array Value)) (sl : Option Nat)
  | put (j : Nat)
def Pl.value (x : Pl) (p : Nat → Nat) (k : Nat) : Value := match x with
  | .val v => v
  | .call v => v
  | .box _ _ _ none => .pointer (some ⟨p k, 0, none⟩)
  | .box _ _ _ (some n) => .slice (some ⟨p k, 0, none⟩) n n
  | .put _ => undef
def nowC (listed : Array Bool) (z : Array Value) : Option (Nat × Array Value) → Array Value
  | none => z
  | some (s, vs) => if listed.getD s false = true then vs else z
def endC (z : Array Value) : Option (Nat × Array Value) → Array Value
  | none => z
  | some (_, vs) => vs
abbrev Plan := List (Option Tmp × Pl)
def distinctB : List (Option Tmp) → Bool
  | [] => true
  | none :: l => distinctB l
  | some d :: l => !l.contains (some d) && distinctB l
section
variable {P : Program} {ops : Array Oper} {Q : Exit → Act → World → Prop}
structure BoxI (L : Plan) (a0 : Act) (w0 : World) (p : Nat → Nat) (listed : Array Bool) (a : Act) (w : World) : Prop where
  size : listed.size = L.length
  df : a.defers = a0.defers
  len : a.tmps.size = a0.tmps.size
  slot : ∀ (k : Nat) (d : Tmp) (x : Pl), L[k]? = some (some d, x) → listed.getD k false = true → a.tmps[d]? = some (x.value p k)
  rest : ∀ (s : Nat), (∀ (k : Nat) (x : Pl), L[k]? ≠ some (some s, x)) → a.tmps[s]? = a0.tmps[s]?
  below : Below w0.heap.size w0 w
  boxed : ∀ (k : Nat) (d : Option Tmp) (t : TypeId) (z : Array Value) (s : Option (Nat × Array Value)) (vs : Option Nat), L[k]? = some (d, .box t z s vs) → listed.getD k false = true → w0.heap.size ≤ p k ∧ Row w (p k) t (nowC listed z s)
  apart : ∀ (k l : Nat) (d : Option Tmp) (t : TypeId) (z : Array Value) (s : Option (Nat × Array Value)) (vs : Option Nat) (d' : Option Tmp) (t' : TypeId) (z' : Array Value) (s' : Option (Nat × Array Value)) (vs' : Option Nat), L[k]? = some (d, .box t z s vs) → L[l]? = some (d', .box t' z' s' vs') → listed.getD k false = true → listed.getD l false = true → k ≠ l → p k ≠ p l
def needB (ops : Array Oper) (k j : Nat) : Bool := match ops[k]? with
  | some o => o.after.toList.any fun e => Region.binds .any e && e.on == j
  | none => false
theorem getD_at {α : Type} {xs : Array α} {k : Nat} {d v : α} (h : xs[k]? = some v) : xs.getD k d = v := by
  rw [Array.getD_eq_getD_getElem?, h]; rfl
theorem BoxI.tmp {L : Plan} {a0 : Act} {w0 : World} {p : Nat → Nat} {listed : Array Bool} {a : Act} {w : World} (h : BoxI L a0 w0 p listed a w) {k : Nat} (hd : ∀ j, needB ops k j = true → listed.getD j false = true) (j : Nat) (hn : needB ops k j = true) {d : Tmp} {x : Pl} (hL : L[j]? = some (some d, x)) :
    a.eval (.tmp d) = x.value p j := getD_at (h.slot j d x hL (hd j hn))
structure PlanOk (ops : Array Oper) (L : Plan) (N : Nat) : Prop where
  len : L.length = ops.size
  get : ∀ (k : Nat) (o : Oper), ops[k]? = some o → ∃ x, L[k]? = some (o.dst, x)
  fit : ∀ (k : Nat) (d : Tmp) (x : Pl), L[k]? = some (some d, x) → d < N
  guard : ∀ (k : Nat) (o : Oper), ops[k]? = some o → o.guard = none
  dist : distinctB (L.map (·.1)) = true
  store : ∀ (k : Nat) (d : Option Tmp) (t : TypeId) (z : Array Value) (s : Nat) (vs : Array Value) (n : Option Nat), L[k]? = some (d, .box t z (some (s, vs)) n) → L[s]? = some (none, .put k)
  put : ∀ (k : Nat) (d : Option Tmp) (j : Nat), L[k]? = some (d, .put j) → d = none ∧ needB ops k j = true ∧ ∃ d' t z vs n, L[j]? = some (d', .box t z (some (k, vs)) n)
  ord : ∀ (k : Nat) (hk : k < ops.size), ∀ e ∈ ops[k].after, Region.binds .any e = true → e.on < k
  sel : ∀ (k : Nat) (o : Oper) cs b, ops[k]? = some o → o.op ≠ .select cs b
  uses : ∀ (k : Nat) (o : Oper) (s : Tmp), ops[k]? = some o → Operand.tmp s ∈ o.op.operands → (L.map (·.1)).contains (some s) = false ∨ ∃ j x, L[j]? = some (some s, x) ∧ needB ops k j = true
def BoxEnd (L : Plan) (w0 : World) (p : Nat → Nat) (w : World) : Prop := Below w0.heap.size w0 w ∧
  (∀ (k : Nat) (d : Option Tmp) (t : TypeId) (z : Array Value) (s : Option (Nat × Array Value)) (vs : Option Nat), L[k]? = some (d, .box t z s vs) → w0.heap.size ≤ p k ∧ Row w (p k) t (endC z s)) ∧
  (∀ (k l : Nat) (d : Option Tmp) (t : TypeId) (z : Array Value) (s : Option (Nat × Array Value)) (vs : Option Nat) (d' : Option Tmp) (t' : TypeId) (z' : Array Value) (s' : Option (Nat × Array Value)) (vs' : Option Nat), L[k]? = some (d, .box t z s vs) → L[l]? = some (d', .box t' z' s' vs') → k ≠ l → p k ≠ p l)
theorem BoxI.fin {L : Plan} {a0 : Act} {w0 : World} {N : Nat} (H : PlanOk ops L N) {p : Nat → Nat} {a : Act} {w : World} (I : BoxI L a0 w0 p (Array.replicate ops.size true) a w) : BoxEnd L w0 p w := by
  have hlt : ∀ (k : Nat) (x : Option Tmp × Pl), L[k]? = some x → k < ops.size := fun k x h => by rw [← H.len]; exact (List.getElem?_eq_some_iff.1 h).1
  have tr : ∀ k, k < ops.size → (Array.replicate ops.size true).getD k false = true := fun k hk => getD_at (by simp [hk])
  refine ⟨I.below, fun k d t z s vs hk => ?_, fun k l d t z s vs d' t' z' s' vs' hk hl hne => I.apart k l d t z s vs d' t' z' s' vs' hk hl (tr k (hlt k _ hk)) (tr l (hlt l _ hl)) hne⟩
  have h := I.boxed k d t z s vs hk (tr k (hlt k _ hk))
  rcases s with _ | ⟨s, u⟩
  · exact h
  · simp only [nowC, tr s (hlt s _ (H.store k d t z s u vs hk)), if_true] at h
    exact h
end
section
variable {P : Program} {ops : Array Oper} {Q : Exit → Act → World → Prop} {base : List Value} {rest : List Oper} {l : Slots} {w w0 : World} {rs : List RowK} {L : List Nat}
theorem Many.add {b : Nat} {t : TypeId} {cells : Array Value} (h : Many w0 L rs w) (hr : Row w b t cells) (hb : w0.heap.size ≤ b) (hne : ∀ (i : Nat) (r : RowK), rs[i]? = some r → r.b ≠ b) : Many w0 L (rs ++ [⟨b, t, cells.toList.map some⟩]) w := by
  have at_ : ∀ (i : Nat) (r : RowK), (rs ++ [⟨b, t, cells.toList.map some⟩])[i]? = some r → rs[i]? = some r ∨ (i = rs.length ∧ r = ⟨b, t, cells.toList.map some⟩) := fun i r hr => by
    by_cases hi : i < rs.length
    · rw [List.getElem?_append_left hi] at hr; exact .inl hr
    · rw [List.getElem?_append_right (by omega)] at hr
      cases hk : i - rs.length with
      | zero => rw [hk] at hr; injection hr with hr; exact .inr ⟨by omega, hr.symm⟩
      | succ n => rw [hk] at hr; cases hr
  refine ⟨fun i r hi => ?_, fun i j r q hi hj hij => ?_, fun i r hi => ?_, h.touch⟩
  · rcases at_ i r hi with h1 | ⟨_, rfl⟩
    · exact h.rows i r h1
    · exact ⟨cells, hr, by simp, fun k v hv => by
        have : cells.toList[k]? = some v := by
          rw [List.getElem?_map] at hv
          cases hl : cells.toList[k]? with
          | none => rw [hl] at hv; cases hv
          | some u => rw [hl] at hv; injection hv with hv
        simpa using this⟩
  · rcases at_ i r hi with h1 | ⟨e1, rfl⟩ <;> rcases at_ j q hj with h2 | ⟨e2, rfl⟩
    · exact h.dis i j r q h1 h2 hij
    · exact hne i r h1
    · exact (hne j q h2).symm
    · omega
  · rcases at_ i r hi with h1 | ⟨_, rfl⟩
    · exact h.own i r h1
    · exact .inr hb
theorem Many.lt (h : Many w0 L rs w) (i : Nat) (r : RowK) (hr : rs[i]? = some r) : r.b < w.heap.size := by obtain ⟨full, h1, _⟩ := h.rows i r hr; exact h1.lt
theorem Many.row (h : Many w0 L rs w) (i : Nat) {b : Nat} {t : TypeId} (vs : List Value) (e : rs[i]? = some ⟨b, t, vs.map some⟩) : Row w b t vs.toArray := by
  obtain ⟨full, h1, h2⟩ := h.rows i _ e
  have hfull : full = vs.toArray := by
    apply Array.ext_getElem?
    intro k
    by_cases hk : k < vs.length
    · have : (vs.map some)[k]? = some (some vs[k]) := by rw [List.getElem?_map, List.getElem?_eq_getElem hk]; rfl
      rw [h2.at_ k _ this]
      simp [hk]
    · have hs := h2.size
      rw [List.length_map] at hs
      rw [Array.getElem?_eq_none (by omega)]
      simp [hk]
  rw [← hfull]; exact h1
theorem Many.take (h : Many w0 L rs w) (n : Nat) (rs' : List RowK) (e : rs.take n = rs' := by kernel_rfl) : Many w0 L rs' w := by
  have at_ : ∀ (i : Nat) (r : RowK), rs'[i]? = some r → rs[i]? = some r := fun i r hr => by
    rw [← e, List.getElem?_take] at hr
    split at hr
    · exact hr
    · cases hr
  exact ⟨fun i r hi => h.rows i r (at_ i r hi), fun i j r q hi hj hij => h.dis i j r q (at_ i r hi) (at_ j q hj) hij, fun i r hi => h.own i r (at_ i r hi), h.touch⟩
theorem Many.start {b : Nat} {t : TypeId} {cells : Array Value} (hr : Row w b t cells) : Many w [b] [⟨b, t, cells.toList.map some⟩] w := by
  have at_ : ∀ (i : Nat) (r : RowK), ([⟨b, t, cells.toList.map some⟩] : List RowK)[i]? = some r → i = 0 ∧ r = ⟨b, t, cells.toList.map some⟩ := fun i r hi => by
    cases i with
    | zero => simp at hi; exact ⟨rfl, hi.symm⟩
    | succ i => simp at hi
  refine ⟨fun i r hi => ?_, fun i j r q hi hj hij => ?_, fun i r hi => ?_, .refl ..⟩
  · obtain ⟨-, rfl⟩ := at_ i r hi
    exact ⟨cells, hr, by simp, fun k v hv => by
      have : cells.toList[k]? = some v := by
        rw [List.getElem?_map] at hv
        cases hl : cells.toList[k]? with
        | none => rw [hl] at hv; cases hv
        | some u => rw [hl] at hv; injection hv with hv
      simpa using this⟩
  · have h1 := (at_ i r hi).1
    have h2 := (at_ j q hj).1
    omega
  · obtain ⟨-, rfl⟩ := at_ i r hi
    exact .inl (by simp)
abbrev slotsO (base : List Value) (l : Slots) : Nat → Value := fun i => (ovO base l).getD i undef
theorem coBase {c : Code} (base' : List Value) (h : CO P c Q base' [] w) (e : ovO base l = base' := by kernel_rfl) : CO P c Q base l w := ⟨fun hi => by
  have := h.h trivial
  have e2 : actO base' [] = actO base l := by rw [← e]; rfl
  rwa [e2] at this⟩
def Round {α : Type} (B : α → List Value) (I : α → World → Prop) (μ : α → Nat) (x : α) (a : Act) (w : World) : Prop := ∃ x', a = actO (B x') [] ∧ I x' w ∧ μ x' < μ x
theorem coLoop {α : Type} {c : Code} (B : α → List Value) (I : α → World → Prop) (μ : α → Nat) (x0 : (Nat → Value) → α) (h0 : I (x0 (slotsO base l)) w) (round : ∀ x w, I x w → CO P c (Exit.then (Round B I μ x) Q) (B x) [] w) (e : ovO base l = B (x0 (slotsO base l)) := by kernel_rfl) : CO P (.loop c) Q base l w := ⟨fun hi => by
  have e2 : actO base l = actO (B (x0 (slotsO base l))) [] := by rw [← e]; rfl
  refine wp_loop_ghost (fun n a w => ∃ x, μ x = n ∧ a = actO (B x) [] ∧ I x w) (μ (x0 (slotsO base l))) ⟨_, rfl, e2, h0⟩ ?_
  rintro n a w1 ⟨x, rfl, rfl, hx⟩
  refine wp_mono ((round x w1 hx).h trivial) ?_
  intro e a' w' hq
  cases e with
  | normal =>
    obtain ⟨x', h1, h2, h3⟩ := hq
    exact ⟨μ x', h3, x', rfl, h1, h2⟩
  | _ => exact hq⟩
theorem eoRound {α : Type} {B : α → List Value} {I : α → World → Prop} {μ : α → Nat} {x : α} (x' : (Nat → Value) → α) (hI : I (x' (slotsO base l)) w) (hμ : μ (x' (slotsO base l)) < μ x) (e : ovO base l = B (x' (slotsO base l)) := by kernel_rfl) : EO (Exit.then (Round B I μ x) Q) .normal base l w :=
  ⟨fun hi => ⟨x' (slotsO base l), by rw [← e]; rfl, hI, hμ⟩⟩
end
theorem own_below {w w' : World} {b : Nat} {e : TypeId} {s : Nat} {v : Value} {n : Nat} {xs : List Value} (h : w.ownsRow b e s v n xs) (k : Below w.heap.size w w') : w'.ownsRow b e s v n xs := by
  refine h.kept (row := none) ⟨k.os, k.tape, k.output, k.size, fun i hi _ => k.block i hi⟩ ?_
  cases e2 : v.ownBlock with
  | none => exact .inl rfl
  | some g => exact .inr (by simp)
theorem grown_below {w W w1 : World} {base : Nat} {e : TypeId} {size : Nat} {v : Value} {n : Nat} {xs : List Value} (h : Below w.heap.size w W) (hg : W.grownBy w1 v.ownBlock) (ho : W.ownsRow base e size v n xs) (hb : w.heap.size ≤ base) : Below w.heap.size w w1 :=
  h.grown hg h.size (fun k e => Nat.le_trans hb (ho.lt k e).1)
def bvs (l : List Int) : List Value := l.map fun x => .int .u8 x
theorem u8_info : (Tryd.prog.info? 5).map (fun i => (i.zero, i.size, i.bytes)) = some (some (.int .u8 0), 1, 1) := by kernel_rfl
theorem bvs_one (l : List Int) : ∀ u ∈ bvs l, u.oneCell' = true := by
  intro u hu
  unfold bvs at hu
  rw [List.mem_map] at hu
  obtain ⟨x, -, rfl⟩ := hu
  rfl
theorem bvs_append (l m : List Int) : bvs l ++ bvs m = bvs (l ++ m) := by simp [bvs]
theorem bvs_length (l : List Int) : (bvs l).length = l.length := by simp [bvs]
theorem wpList_append_bytes {ops : Array Oper} {rest : List Oper} {o : Oper} {a : Act} {w : World} {Q : Exit → Act → World → Prop} (hgd : o.guard = none) (s x : Operand)
    (ho : o.op = .call { callee := .builtin .append, args := #[s, x], argTypes := #[63, 63] })
    (w0 : World) (base B : Nat) (hB : Below w0.heap.size w0 w) (hb0 : w0.heap.size ≤ base) (hbase : base ≤ w.heap.size)
    (v : Value) (n : Nat) (l : List Int) (hs : a.eval s = v) (hown : w.ownsRow base 5 1 v n (bvs l))
    (A : Option Addr) (c : Nat) (ys : List Int) (hx : a.eval x = .slice A ys.length c) (hy : BytesIn w B A ys) (hn : A = none → c = 0) (hmax : n + ys.length ≤ 140737488355328)
    (h : ∀ v' w', w'.ownsRow base 5 1 v' (n + ys.length) (bvs (l ++ ys)) → Below w0.heap.size w0 w' → base ≤ w'.heap.size → wpList Tryd.prog ops Q rest (a.put o.dst v') w') :
    wpList Tryd.prog ops Q (o :: rest) a w := by
  obtain ⟨i0, hi0, hz0, hz1, hz2⟩ := info_parts u8_info
  rcases A with _ | p
  · obtain rfl := hn rfl
    have hy0 : ys = [] := by
      cases ys with
      | nil => rfl
      | cons y ys' =>
        obtain ⟨ad, e, -⟩ := hy 0 y rfl
        cases e
    subst hy0
    refine wpList_append_own_none hgd s x _ ho base 5 i0 1 Tryd.underlying63 hi0 v n (bvs l) hs hown hx ?_
    exact h v w (by simpa using hown) hB hbase
  · refine wpList_append_own_at _ hgd s x _ ho base 5 i0 _ 1 1 Tryd.underlying63 hi0 hz0 hz1 hz2 rfl (by omega) v n (bvs l) hs hown p ys.length c (bvs ys) hx (by rw [bvs_length]; omega) (fun j u hj => ?_) (bvs_one ys) (by simp only [maxLen]; omega) (by omega) hbase ?_
    · unfold bvs at hj
      rw [List.getElem?_map] at hj
      obtain ⟨y, hy1, hy2⟩ := Option.map_eq_some_iff.1 hj
      obtain ⟨ad, e1, -, e2⟩ := hy j y hy1
      cases e1
      rw [e2, ← hy2]
    · intro v' w' own' hg _ _
      rw [bvs_append] at own'
      exact h v' w' own' (grown_below hB hg hown hb0) (Nat.le_trans hbase hg.size)
section
variable {ops : Array Oper} {Q : Exit → Act → World → Prop} {base : List Value} {rest : List Oper} {l : Slots} {w : World} {o : Oper}
theorem qA {o : Oper} (s x : Operand) (w0 : World) (bs B : Nat) (v : Value) (n : Nat) (got : List Int) (A : Option Addr) (c : Nat) (ys : List Int) (hB : Below w0.heap.size w0 w) (hb0 : w0.heap.size ≤ bs) (hbs : bs ≤ w.heap.size)
    (hown : w.ownsRow bs 5 1 v n (bvs got)) (hy : BytesIn w B A ys) (hn : A = none → c = 0) (hmax : n + ys.length ≤ 140737488355328)
    (h : ∀ v' w', w'.ownsRow bs 5 1 v' (n + ys.length) (bvs (got ++ ys)) → Below w0.heap.size w0 w' → bs ≤ w'.heap.size → WO Tryd.prog ops Q base rest (putO o.dst v' l) w')
    (ho : o.op = .call { callee := .builtin .append, args := #[s, x], argTypes := #[63, 63] } := by exact rfl) (hg : o.guard = none := by exact rfl) (hs : evO base l s = v := by kernel_rfl) (hx : evO base l x = .slice A ys.length c := by kernel_rfl) (hd : dstO o.dst base.length = true := by kernel_rfl) : WO Tryd.prog ops Q base (o :: rest) l w :=
  ⟨fun hi => ⟨wpList_append_bytes hg s x ho w0 bs B hB hb0 hbs v n got (by rw [evO_eq hi]; exact hs) hown A c ys (by rw [evO_eq hi]; exact hx) hy hn hmax fun v' w' h1 h2 h3 => by rw [put_actO]; exact ((h v' w' h1 h2 h3).h (inO_put hd hi)).h⟩⟩
end
section
variable {P : Program} {ops : Array Oper} {Q : Exit → Act → World → Prop} {base : List Value} {rest : List Oper} {l : Slots} {w : World} {o : Oper}
theorem list_turn {rest : List Oper} {o : Oper} {a : Act} {w w' : World} (v : Value) (hw : Region.wanted o (yielded ops a.tmps) = true) (he : (execOp a.eval o).run P w = .ok (.value v) w')
    (h : WL P ops Q rest (a.put o.dst v) w') : WL P ops Q (o :: rest) a w :=
  ⟨wpList_step fun K hK => by
    rw [if_pos hw]
    unfold Oper.wp
    rw [he, Oper.upon_value]
    exact hK _ _ h.h⟩
theorem wM {V : Value} {w' : World} (he : (execOp (evO base l) o).run P w = .ok (.value V) w') (h : WO P ops Q base rest (putO o.dst V l) w') (hg : wantO ops base.length base l o = some true := by kernel_rfl) (hd : dstO o.dst base.length = true := by kernel_rfl) : WO P ops Q base (o :: rest) l w :=
  ⟨fun hi => list_turn V (wantO_sound hg hi) (by rw [evO_eq hi]; exact he) (by rw [put_actO]; exact h.h (inO_put hd hi))⟩
theorem kX {g : FuncId} {args : Array Value} {R : Ending → World → Prop} (hc : Calls P g args w R) (h : ∀ e w', R e w' → ∃ V, e = .returned V ∧ WO P ops Q base rest (putO o.dst V l) w')
    (hg : wantO ops base.length base l o = some true := by kernel_rfl) (he : (execOp (evO base l) o).run P w = .ok (.enter g args) w := by kernel_rfl) (hd : dstO o.dst base.length = true := by kernel_rfl) : WO P ops Q base (o :: rest) l w :=
  woCall hg he hd hc fun e w' hR => by
    obtain ⟨V, rfl, hV⟩ := h e w' hR
    exact hV
end
theorem bOn {w W W' : World} {rs : List RowK} (h : Below w.heap.size w W) (k : Many W [] rs W') : Below w.heap.size w W' := h.trans (k.touch.below.mono h.size)
theorem Many.grown {w0 w w' : World} {L : List Nat} {rs : List RowK} {b : Nat} (h : Many w0 L rs w) (k : w.grownBy w' (some b)) (hb : w0.heap.size ≤ b) (hn : ∀ (i : Nat) (r : RowK), rs[i]? = some r → r.b ≠ b) : Many w0 L rs w' :=
  ⟨fun i r hr => by obtain ⟨full, h1, h2⟩ := h.rows i r hr; exact ⟨full, h1.of (k.block r.b h1.lt (by simpa using hn i r hr)), h2⟩, h.dis, h.own,
    ⟨k.os.trans h.touch.os, k.tape.trans h.touch.tape, k.output.trans h.touch.output, Nat.le_trans h.touch.size k.size, fun c hc hL => (k.block c (Nat.lt_of_lt_of_le hc h.touch.size) (by simp; omega)).trans (h.touch.block c hc hL)⟩⟩
structure LoopK where
  k : Nat
  y : Nat → Value
section
variable {P : Program} {ρ : Operand → Value} {o : Oper} {x y z : Operand} {V W R U : Value}
theorem xIndex {t : TypeId} {w : World} (hl : (Instr.indexAt t V W).run P w = .ok R w) (ho : o.op = .indexAddr t x y := by exact rfl) (hx : ρ x = V := by kernel_rfl) (hy : ρ y = W := by kernel_rfl) : (execOp ρ o).run P w = .ok (.value R) w := by
  unfold execOp
  simp only [ho, hx, hy, Sem.run_bind, Sem.run_pure, hl, Result.andThen_ok]
theorem xBin {op : BinOp} {t r : TypeId} {w : World} (hg : (eqGuard op t x y V W).run P w = .ok () w) (hb : (binOp op t V W).run P w = .ok R w) (ho : o.op = .binOp op t x y r := by exact rfl) (hx : ρ x = V := by kernel_rfl) (hy : ρ y = W := by kernel_rfl) : (execOp ρ o).run P w = .ok (.value R) w := by
  unfold execOp
  simp only [ho, hx, hy, Sem.run_bind, Sem.run_pure, hg, hb, Result.andThen_ok]
theorem xLoad {t : TypeId} {w : World} (hl : (Instr.loadAt t V).run P w = .ok R w) (ho : o.op = .load t x := by exact rfl) (hx : ρ x = V := by kernel_rfl) : (execOp ρ o).run P w = .ok (.value R) w := by
  unfold execOp
  simp only [ho, hx, Sem.run_bind, Sem.run_pure, hl, Result.andThen_ok]
theorem xBuildS {t : TypeId} {n : Nat} {parts : Array (Nat × Operand)} {ps : Array (Nat × Value)} {w w' : World} (h : (Instr.buildSlice t n ps).run P w = .ok V w') (ho : o.op = .buildSlice t n parts := by exact rfl) (hx : (parts.map fun (i, x) => (i, ρ x)) = ps := by kernel_rfl) : (execOp ρ o).run P w = .ok (.value V) w' := by
  unfold execOp
  simp only [ho, hx, Sem.run_bind, Sem.run_pure, h, Result.andThen_ok]
theorem xSlice {P : Program} {ρ : Operand → Value} {o : Oper} {x : Operand} {V R : Value} {t : TypeId} {lo hi mx : Option Operand} {l m n : Option Value} {w : World} (h : (Instr.sliceAt t V l m n).run P w = .ok R w) (ho : o.op = .slice t x lo hi mx := by exact rfl) (hx : ρ x = V := by kernel_rfl) (hl : lo.map ρ = l := by kernel_rfl) (hh : hi.map ρ = m := by kernel_rfl) (hm : mx.map ρ = n := by kernel_rfl) : (execOp ρ o).run P w = .ok (.value R) w := by
  unfold execOp
  simp only [ho, hx, hl, hh, hm, Sem.run_bind, Sem.run_pure, h, Result.andThen_ok]
theorem xStore {P : Program} {ρ : Operand → Value} {o : Oper} {x y : Operand} {V W : Value} {t : TypeId} {w w' : World} (h : (Instr.storeAt t V W).run P w = .ok () w') (ho : o.op = .store t x y := by exact rfl) (hx : ρ x = V := by kernel_rfl) (hy : ρ y = W := by kernel_rfl) : (execOp ρ o).run P w = .ok .skip w' := by
  unfold execOp
  simp only [ho, hx, hy, Sem.run_bind, Sem.run_pure, h, Result.andThen_ok]
end
section
variable {ρ : Operand → Value} {o : Oper} {x y : Operand}
theorem add_i64 (k : Nat) (h : k < 4611686018427387904) (w : World) : (binOp .add 3 (.int .i64 (k : Int)) (.int .i64 1)).run Tryd.prog w = .ok (.int .i64 ((k + 1 : Nat) : Int)) w := by
  have e : IntKind.i64.wrap ((k : Int) + 1) = ((k + 1 : Nat) : Int) := by simp [IntKind.wrap, IntKind.bits, IntKind.signed]; omega
  simp [go_sem, e]
theorem xInc (k : Nat) (h : k < 4611686018427387904) {r : TypeId} {w : World} (ho : o.op = .binOp .add 3 x y r := by exact rfl) (hx : ρ x = .int .i64 (k : Int) := by kernel_rfl) (hy : ρ y = .int .i64 1 := by kernel_rfl) : (execOp ρ o).run Tryd.prog w = .ok (.value (.int .i64 ((k + 1 : Nat) : Int))) w :=
  xBin (by simp [go_sem]) (add_i64 k h w) ho hx hy
theorem ldD {w : World} {p : Addr} {V : Value} (h : w.cell? p = some V) : (Instr.loadAt 5 (.pointer (some p))).run Tryd.prog w = .ok V w := by simp [go_sem, h]
theorem BytesIn.ld {w : World} {B : Nat} {p : Addr} {xs : List Int} (h : BytesIn w B (some p) xs) {k : Nat} (hk : k < xs.length) : (Instr.loadAt 5 (.pointer (some (p.add k)))).run Tryd.prog w = .ok (.int .u8 xs[k]) w := by
  obtain ⟨q, e, -, h1⟩ := h k _ (List.getElem?_eq_getElem hk)
  cases e
  exact ldD h1
theorem BytesIn.addr {w : World} {B : Nat} {A : Option Addr} {xs : List Int} (h : BytesIn w B A xs) {k : Nat} (hk : k < xs.length) : ∃ p, A = some p := by
  obtain ⟨q, e, -⟩ := h k _ (List.getElem?_eq_getElem hk)
  exact ⟨q, e⟩
end
structure EvQ where
  ok : Bool
  l : Slots
  fs : List ((World → Result Next) × (World → Result Next))
def evq (P : Program) (ops : Array Oper) (W : World) (n : Nat) (base : List Value) : List Oper → Slots → List ((World → Result Next) × (World → Result Next)) → EvQ
  | [], l, fs => ⟨true, l, fs⟩
  | o :: r, l, fs => match wantO ops n base l o with
    | some true => match evP P W n base l o with
      | some (l', gs) => evq P ops W n base r l' (gs ++ fs)
      | none => ⟨false, l, fs⟩
    | some false => match o.dst with
      | some d => bif Nat.blt d n then evq P ops W n base r ((d, undef) :: l) fs else ⟨false, l, fs⟩
      | none => ⟨false, l, fs⟩
    | none => ⟨false, l, fs⟩
def okQ (E : EvQ) : Prop := (E.ok, E.fs.map (·.1)) = (true, E.fs.map (·.2))
section
variable {P : Program} {ops : Array Oper} {Q : Exit → Act → World → Prop} {S : World → Prop} {base : List Value} {l : Slots} {w w0 : World} {o : Oper}
theorem evq_mem {W : World} : ∀ (os : List Oper) (l : Slots) (fs), (evq P ops W base.length base os l fs).ok = true → ∀ x ∈ fs, x ∈ (evq P ops W base.length base os l fs).fs
  | [], _, _, _ => fun _ h => h
  | o :: r, l, fs, hok => by
    unfold evq at hok ⊢
    split at hok
    · split at hok
      · rename_i l' gs he
        exact fun x hx => evq_mem r l' (gs ++ fs) hok x (List.mem_append_right _ hx)
      · cases hok
    · split at hok
      · rename_i d hd
        cases hn : Nat.blt d base.length <;> rw [hn] at hok
        · cases hok
        · exact evq_mem r _ fs hok
      · cases hok
    · cases hok
theorem pure_run {W : World} {n : Nat} (hB : partB ops n = true) (hQ : ∀ d v c a w, Q (.panic c) (a.put d v) w → Q (.panic c) a w) :
    ∀ (is : List Nat) (f : Nat) (listed : Array Bool) (l : Slots) (fs) (w : World), (evq P ops W base.length base (atO ops is) l fs).ok = true → (∀ x ∈ (evq P ops W base.length base (atO ops is) l fs).fs, x.1 = x.2) →
    ordB ops n is listed = true → S w → PO P ops Q S n base f (setO is listed) (evq P ops W base.length base (atO ops is) l fs).l w → PO P ops Q S n base (f + is.length) listed l w
  | [], f, listed, l, fs, w, _, _, _, _, h => h
  | i :: r, f, listed, l, fs, w, hok, hf, ho, hS, h => by
    simp only [ordB, Bool.and_eq_true] at ho
    obtain ⟨h1, h2, h3, h4, h5⟩ := ho
    obtain ⟨o, hoi⟩ := Option.isSome_iff_exists.1 h1
    have hat : atO ops (i :: r) = o :: atO ops r := by rw [atO, hoi]
    rw [hat] at hok hf h
    unfold evq at hok hf h
    split at hok
    case h_2 hw =>
      simp only [hw] at hf h
      split at hok
      · rename_i d hd
        simp only [hd] at hf h
        cases hn : Nat.blt d base.length <;> rw [hn] at hok
        · cases hok
        · simp only [hn, cond_true] at hf h
          have := pure_run hB hQ r f (listed.setIfInBounds i true) _ fs w hok hf h5 hS h
          refine ⟨fun hi => part_skip d hd hoi hB h2 h3 h4 (by rw [hd]; exact hQ (some d) undef) (wantO_sound hw hi) hS ?_⟩
          rw [put_actO]
          exact this.h ⟨by simpa [Nat.blt_eq] using hn, hi⟩
      · cases hok
    case h_3 => cases hok
    case h_1 hw =>
    simp only [hw] at hf h
    split at hok
    · rename_i l' gs he
      simp only [he] at hf h
      have hm := evq_mem (atO ops r) l' (gs ++ fs) hok
      have key : ∃ d v, o.dst = some d ∧ Nat.blt d base.length = true ∧ l' = (d, v) :: l ∧ ∀ w', (execOp (evO base l) o).run P w' = .ok (.value v) w' := by
        unfold evP at he
        split at he
        · rename_i d x hd hop
          cases hlt : Nat.blt d base.length <;> rw [hlt] at he
          · cases he
          · injection he with he; injection he with e1 e2
            exact ⟨d, _, hd, hlt, e1.symm, fun w' => exMove (.inl hop) w'⟩
        · rename_i d x hd hop
          cases hlt : Nat.blt d base.length <;> rw [hlt] at he
          · cases he
          · injection he with he; injection he with e1 e2
            exact ⟨d, _, hd, hlt, e1.symm, fun w' => exMove (.inr hop) w'⟩
        · rename_i d hd n1 n2
          split at he
          · rename_i v w1 hv
            cases hlt : Nat.blt d base.length <;> rw [hlt] at he
            · cases he
            · injection he with he; injection he with e1 e2
              exact ⟨d, v, hd, hlt, e1.symm, fun w' => congrFun (hf _ (hm _ (List.mem_append_left _ (by rw [← e2]; exact List.mem_cons_self)))) w'⟩
          · cases he
        · cases he
      obtain ⟨d, v, hd, hn, el, hv⟩ := key
      have := pure_run hB hQ r f (listed.setIfInBounds i true) l' (gs ++ fs) w hok hf h5 hS h
      rw [el] at this
      refine ⟨fun hi => part_take d v hd hoi hB h2 h3 h4 (by rw [hd]; exact hQ (some d) v) (wantO_sound hw hi) (fun w' hs => by rw [evO_eq hi]; exact hv w') hS ?_⟩
      rw [put_actO]
      exact this.h ⟨by simpa [Nat.blt_eq] using hn, hi⟩
    · cases hok
theorem qM {n f : Nat} {listed : Array Bool} (is : List Nat) (hS : S w) (h : PO P ops Q S n base (f - is.length) (setO is listed) (evq P ops w base.length base (atO ops is) l []).l w)
    (hk : okQ (evq P ops w base.length base (atO ops is) l []) := by unfold okQ; kernel_rfl) (ha : (ordB ops n is listed && (partB ops n && Nat.ble is.length f)) = true := by kernel_rfl)
    (hQ : ∀ d v c a w, Q (.panic c) (a.put d v) w → Q (.panic c) a w := by intro d _ _ _ _ h; cases d <;> exact h) : PO P ops Q S n base f listed l w := by
  simp only [Bool.and_eq_true] at ha
  obtain ⟨a2, a3, a4⟩ := ha
  simp only [okQ, Prod.mk.injEq] at hk
  obtain ⟨h1, h3⟩ := hk
  have hle : is.length ≤ f := by simpa using a4
  have := pure_run (S := S) (base := base) (W := w) a3 hQ is (f - is.length) listed l [] w h1 (pairs_eq h3) a2 hS h
  rwa [Nat.sub_add_cancel hle] at this
def opNo (ops : Array Oper) (i : Nat) : Oper := (ops[i]?).getD { dst := none, op := .move (.const undef), type := 0, pos := "", after := #[], guard := none }
theorem opNo_eq {ops : Array Oper} {i : Nat} (h : (ops[i]?).isSome = true) : ops[i]? = some (opNo ops i) := by
  unfold opNo
  cases e : ops[i]? with
  | none => rw [e] at h; cases h
  | some o => rfl
theorem qT {n f : Nat} {listed : Array Bool} {V : Value} (i : Nat) (hS : S w) (he : ∀ w', S w' → (execOp (evO base l) (opNo ops i)).run P w' = .ok (.value V) w') (h : PO P ops Q S n base (f - 1) (listed.setIfInBounds i true) (putO (opNo ops i).dst V l) w)
    (hd : ((opNo ops i).dst.isSome, dstO (opNo ops i).dst base.length, wantO ops base.length base l (opNo ops i)) = (true, true, some true) := by kernel_rfl) (ha : (ordB ops n [i] listed && (partB ops n && Nat.blt 0 f)) = true := by kernel_rfl)
    (hQ : ∀ d v c a w, Q (.panic c) (a.put d v) w → Q (.panic c) a w := by intro d _ _ _ _ h; cases d <;> exact h) : PO P ops Q S n base f listed l w := by
  simp only [Prod.mk.injEq] at hd
  obtain ⟨d1, d2, d3⟩ := hd
  simp only [ordB, Bool.and_eq_true] at ha
  obtain ⟨⟨a1, a2, a3, a4, -⟩, a5, a6⟩ := ha
  have ho := opNo_eq a1
  obtain ⟨d, hd⟩ := Option.isSome_iff_exists.1 d1
  have hf : f = (f - 1) + 1 := by have : 0 < f := by simpa [Nat.blt_eq] using a6
                                  omega
  rw [hf]
  refine ⟨fun hi => part_take d V hd ho a5 a2 a3 a4 (by rw [hd]; exact hQ (some d) V) (wantO_sound d3 hi) (fun w' hs => by rw [evO_eq hi]; exact he w' hs) hS ?_⟩
  rw [← hd, put_actO]
  exact h.h (inO_put d2 hi)
structure SO (P : Program) (ops : Array Oper) (Q : Exit → Act → World → Prop) (S : World → Prop) (n : Nat) (base : List Value) (f : Nat) (listed : Array Bool) (i : Nat) (l : Slots) (w : World) : Prop where
  h : inO base.length l → i ∈ Region.ready .any ops listed → HeadInv .any ops n listed → i < n ∧ wpOp P ops Q i (fun a' w' => S w' ∧ wpAnyT P .any ops Q S n (tailL P ops Q n) f (listed.setIfInBounds i true) a' w') (actO base l) w
theorem poOne {n f : Nat} {listed : Array Bool} (i : Nat) (h : SO P ops Q S n base (f - 1) listed i l w) (hr : (Region.ready .any ops listed, Nat.blt 0 f) = ([i], true) := by kernel_rfl) : PO P ops Q S n base f listed l w := by
  simp only [Prod.mk.injEq] at hr
  have hf : f = (f - 1) + 1 := by have : 0 < f := by simpa [Nat.blt_eq] using hr.2
                                  omega
  rw [hf]
  refine ⟨fun hi inv => ⟨by rw [hr.1]; simp, fun k hk => ?_⟩⟩
  have hk' := hk
  rw [hr.1] at hk
  obtain rfl : k = i := by simpa using hk
  exact h.h hi hk' inv
theorem soV {n f i : Nat} {listed : Array Bool} {V : Value} (hS : S w) (he : (execOp (evO base l) (opNo ops i)).run P w = .ok (.value V) w) (h : PO P ops Q S n base f (listed.setIfInBounds i true) (putO (opNo ops i).dst V l) w)
    (hd : (dstO (opNo ops i).dst base.length, decide (i < n), wantO ops base.length base l (opNo ops i), (ops[i]?).isSome) = (true, true, some true, true) := by kernel_rfl) : SO P ops Q S n base f listed i l w := by
  simp only [Prod.mk.injEq] at hd
  obtain ⟨d1, d2, d3, d4⟩ := hd
  have ho := opNo_eq d4
  refine ⟨fun hi hr inv => ⟨of_decide_eq_true d2, ?_⟩⟩
  unfold wpOp
  simp only [ho, wantO_sound d3 hi, if_true]
  refine .inl ?_
  unfold Oper.wp
  rw [evO_eq hi, he, Oper.upon_value, put_actO]
  exact ⟨hS, h.h (inO_put d1 hi) (inv.set hr (of_decide_eq_true d2))⟩
theorem soC {n f i : Nat} {listed : Array Bool} {g : FuncId} {args : Array Value} {R : Ending → World → Prop} (hc : Calls P g args w R) (h : ∀ e w', R e w' → ∃ V, e = .returned V ∧ S w' ∧ PO P ops Q S n base f (listed.setIfInBounds i true) (putO (opNo ops i).dst V l) w')
    (hd : (dstO (opNo ops i).dst base.length, decide (i < n), wantO ops base.length base l (opNo ops i), (ops[i]?).isSome) = (true, true, some true, true) := by kernel_rfl) (he : (execOp (evO base l) (opNo ops i)).run P w = .ok (.enter g args) w := by kernel_rfl) : SO P ops Q S n base f listed i l w := by
  simp only [Prod.mk.injEq] at hd
  obtain ⟨d1, d2, d3, d4⟩ := hd
  have ho := opNo_eq d4
  refine ⟨fun hi hr inv => ⟨of_decide_eq_true d2, ?_⟩⟩
  unfold wpOp
  simp only [ho, wantO_sound d3 hi, if_true]
  refine .inl ?_
  unfold Oper.wp
  rw [evO_eq hi, he, Oper.upon_enter]
  refine hc.mono fun e w' hR => ?_
  obtain ⟨V, rfl, hS, hp⟩ := h e w' hR
  dsimp only
  rw [put_actO]
  exact ⟨hS, hp.h (inO_put d1 hi) (inv.set hr (of_decide_eq_true d2))⟩
end
end Go.Proofs.YtoifkefonejeiaaDoor
