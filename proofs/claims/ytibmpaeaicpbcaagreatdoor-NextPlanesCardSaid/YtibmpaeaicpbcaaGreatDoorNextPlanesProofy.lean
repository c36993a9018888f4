/- The law's walk and what it wants (several texts in one). -/
import Derived.OrdersHeld
import Derived.StillTail
import Derived.WalkKit
import Derived.Below
import Derived.RangeFuncBox
import Derived.Deep.MidRow
import Derived.Laws.NewBlocks
import Derived.Laws.Tables
import Derived.Lib.Hide
import Derived.Deep.LoopGhost
import Derived.Test.YtibmpaeaicpbcaaGreatDoorChecked
import Derived.WalkLawsBesides
import Derived.WalkSpells
import Derived.Outline
import Derived.Laws.BitsAllLaws
import Derived.Laws.BitsLemmas
import Derived.LoopTactic
import Derived.RangeFuncNested
import Derived.RangeFuncBound
import Derived.RangeFuncCalls
import Derived.RangeFuncLeaves
import Derived.Shelf.Abstract
import Derived.Shelf.RegionOpen
import Derived.OwnWalkIn
import Derived.TacticsInMore
import Derived.LoopNIn
import Derived.LoopIn
import Derived.Handy
import Derived.ChangeKeysEq
import Derived.Laws.Rows
import Derived.Deep.RegionHeld3
import Derived.Laws.EntriesVeiled
import Derived.Maps.Own
import Derived.Deep.DeepHandedRow
import Derived.BigQuiet
import Derived.Deep.DeepCutAuto
import Derived.Deep.QuietTactic
import Derived.StillTailTactics
import Derived.Defers
import Derived.Recover
import Derived.Laws.StructEq
import Derived.Maps.AppendAt
import Derived.Laws.OwnMore
import Derived.Laws.AppendOwn
import Derived.Laws.AppendOwnNone
import Derived.OwnWalk
import Derived.ProofKit
import Derived.OpenShut
import Derived.ChangeSlices
import Derived.Lib.SmallJoins
import Derived.ChangeArms
import Derived.Deep.Fields
import Derived.LaidLaws
import Derived.FnData
import Derived.Test.YtibmpaeaicpbcaaGreatDoorNxG1
import Derived.Test.YtibmpaeaicpbcaaGreatDoorNxG2
import Derived.Test.YtibmpaeaicpbcaaGreatDoorNxG3
import Derived.Test.YtibmpaeaicpbcaaGreatDoorNxG4
import Derived.Test.YtibmpaeaicpbcaaGreatDoorNxG5
import Derived.Test.YtibmpaeaicpbcaaGreatDoorNxG6
import Derived.Test.YtibmpaeaicpbcaaGreatDoorNxG7
namespace Go.Proofs.YtibmpaeaicpbcaaGreatDoor
open Go.RowKit
set_option linter.unusedVariables false
set_option linter.unusedSimpArgs false
set_option maxRecDepth 20000
set_option maxHeartbeats 20000000
theorem Row.of {w w' : World} {g : Nat} {t : TypeId} {cs : Array Value} (h : Row w g t cs) (k : w'.heap[g]? = w.heap[g]?) : Row w' g t cs := k.trans h
theorem size_setCells (b : Nat) : ∀ (vs : List Value) (o : Nat) (w : World), (w.setCells b o vs).heap.size = w.heap.size
  | [], _, _ => rfl
  | v :: r, o, w => (size_setCells b r (o + 1) _).trans (by simp [World.setCell])
section
variable {P : Program} {ops : Array Oper} {Q : Exit → Act → World → Prop} {base : List Value} {rest : List Oper} {l : Slots} {w : World} {o : Oper} {b : Nat} {ty : TypeId} {cs : Cells}
theorem ev1_sound'x {W : World} {e : Ev1} {full : Array Value} (hg : wantO ops base.length base l o = some true) (he : ev1 P W b base.length base l cs o = some e) (hf : ∀ x ∈ e.fs, x.1 = x.2) (hb : ∀ x ∈ e.bs, x.1 = x.2) (hr : Row w b ty full) (hK : Kn cs full)
    (h : ∀ w' full', (noSt o = true → w' = w) → w'.heap.size = w.heap.size → Row w' b ty full' → Kn e.cs full' → Same cs full e.cs full' → Besides b b w w' → WO P ops Q base rest e.l w') : WO P ops Q base (o :: rest) l w := by
  cases hs : noSt o with
  | true =>
    obtain ⟨d, v, hd, hn, el, ec, hv⟩ := ev1_val (ty := ty) he hs hf hb
    have := h w full (fun _ => rfl) rfl hr (by rw [ec]; exact hK) (by rw [ec]; exact .refl _ _) (.refl ..)
    rw [el] at this
    exact step1 hd hg hn (hv w full hr hK) this
  | false =>
    have ho : ∃ t x y, o.op = .store t x y := by
      unfold noSt at hs
      split at hs
      · rename_i t x y ho; exact ⟨t, x, y, ho⟩
      · cases hs
    obtain ⟨t, x, y, ho⟩ := ho
    unfold ev1 at he
    rw [ho] at he
    cases hd : o.dst with
    | some d =>
      rw [hd] at he
      dsimp only at he
      split at he
      · rename_i v w1 hv
        cases hn : Nat.blt d base.length <;> rw [hn] at he
        · cases he
        · injection he with he; subst he
          exact step1 hd hg hn (congrFun (hf _ List.mem_cons_self) w) (h w full (fun e => absurd (hs.symm.trans e) (by decide)) rfl hr hK (.refl _ _) (.refl ..))
      · cases he
    | none =>
    rw [hd] at he
    dsimp only at he
    split at he
    · rename_i c k hx hi
      cases hn : ((evO base l y).oneCell' && Nat.blt k cs.length) <;> rw [hn] at he
      · cases he
      · injection he with he; subst he
        simp only [Bool.and_eq_true, Nat.blt_eq] at hn
        obtain rfl : c = b := hb (c, b) (by simp)
        have h2 := hK.set k (evO base l y)
        have hk := h (w.setCell ⟨c, k, none⟩ (evO base l y)) _ (fun e => absurd (hs.symm.trans e) (by decide)) (by simp [World.setCell]) (hr.set k _) h2.1 h2.2 ((Besides.refl c c w).setCell (.inl rfl) _)
        refine ⟨fun hin => list_do hd (wantO_sound hg hin) (w' := w.setCell ⟨c, k, none⟩ (evO base l y)) ?_ (by rw [put_actO]; exact hk.h hin)⟩
        rw [evO_eq hin]
        unfold execOp
        have hsz := hK.size
        have hcell : w.cell? ⟨c, k, none⟩ = some (full[k]'(by omega)) := by rw [hr.cell k]; simp [hsz, hn.2]
        simp only [ho, hx, Sem.run_bind, Sem.run_pure, storeOne hi hcell (hr.frozen k) hn.1, Result.andThen_ok]
    · rename_i c k m hm hx hi
      split at he
      · rename_i vs hy
        cases hn : ((Nat.beq vs.size m && vs.all (·.oneCell')) && Nat.ble (k + vs.size) cs.length) <;> rw [hn] at he
        · cases he
        · injection he with he; subst he
          simp only [Bool.and_eq_true] at hn
          obtain ⟨⟨hn1, hn2⟩, hn3⟩ := hn
          obtain rfl : c = b := hb (c, b) (by simp)
          have hle : k + vs.size ≤ cs.length := by simpa using hn3
          have hsz : vs.size = m := Nat.eq_of_beq_eq_true hn1
          have hfs := hK.size
          have h2 := Kn.over vs.toList cs full k hK
          have hk := h (w.setCells c k vs.toList) _ (fun e => absurd (hs.symm.trans e) (by decide)) (size_setCells _ _ _ _) (Row.setOver (w := w) vs.toList k hr) h2.1 h2.2 (setsB c vs.toList k (.refl ..))
          refine ⟨fun hin => list_do hd (wantO_sound hg hin) (w' := w.setCells c k vs.toList) ?_ (by rw [put_actO]; exact hk.h hin)⟩
          rw [evO_eq hin]
          unfold execOp
          have hl := run_storeAt_mid (P := P) w c k t vs (fun j hj => ⟨by rw [hr.cell]; simp; omega, hr.frozen _⟩) (by rw [hi, hsz]) hn2
          simp only [ho, hx, hy, Sem.run_bind, Sem.run_pure, hl, Result.andThen_ok]
      · cases he
    · cases he
theorem evs_sound'x {W : World} : ∀ (os : List Oper) (l : Slots) (cs : Cells) (fs bs) (w : World) (full : Array Value), (evs P ops W b base.length base os l cs fs bs).ok = true →
    (∀ x ∈ (evs P ops W b base.length base os l cs fs bs).fs, x.1 = x.2) → (∀ x ∈ (evs P ops W b base.length base os l cs fs bs).bs, x.1 = x.2) → Row w b ty full → Kn cs full →
    (∀ w' full', (os.all noSt = true → w' = w) → Row w' b ty full' → Kn (evs P ops W b base.length base os l cs fs bs).cs full' → Same cs full (evs P ops W b base.length base os l cs fs bs).cs full' → Besides b b w w' → WO P ops Q base rest (evs P ops W b base.length base os l cs fs bs).l w') →
    WO P ops Q base (os ++ rest) l w
  | [], _, _, _, _, w, full, _, _, _, hr, hK, h => h w full (fun _ => rfl) hr hK (.refl _ _) (.refl ..)
  | o :: r, l, cs, fs, bs, w, full, hok, hf, hb, hr, hK, h => by
    unfold evs at hok hf hb h
    split at hok
    case h_2 hw =>
      simp only [hw] at hf hb h
      split at hok
      · rename_i d hd
        simp only [hd] at hf hb h
        cases hn : Nat.blt d base.length <;> rw [hn] at hok
        · cases hok
        · simp only [hn, cond_true] at hf hb h
          have := evs_sound'x r _ cs fs bs w full hok hf hb hr hK fun w' full' ha => h w' full' fun hx => ha (by simp only [List.all_cons, Bool.and_eq_true] at hx; exact hx.2)
          exact ⟨fun hi => list_skip d hd (wantO_sound hw hi) (by rw [put_actO]; exact this.h ⟨by simpa [Nat.blt_eq] using hn, hi⟩)⟩
      · cases hok
    case h_3 => cases hok
    case h_1 hw =>
    simp only [hw] at hf hb h
    split at hok
    · rename_i e he
      simp only [he] at hf hb h
      have hm := evs_mem r e.l e.cs (e.fs ++ fs) (e.bs ++ bs) hok
      refine ev1_sound'x hw he (fun x hx => hf x (hm.1 x (List.mem_append_left _ hx))) (fun x hx => hb x (hm.2 x (List.mem_append_left _ hx))) hr hK fun w1 full1 h1 _ hr1 hK1 hs1 hb1 => ?_
      refine evs_sound'x r e.l e.cs (e.fs ++ fs) (e.bs ++ bs) w1 full1 hok hf hb hr1 hK1 fun w2 full2 h2 hr2 hK2 hs2 hb2 => h w2 full2 (fun ha => ?_) hr2 hK2 (hs1.trans hs2) (hb1.trans hb2)
      simp only [List.all_cons, Bool.and_eq_true] at ha
      rw [h2 ha.2, h1 ha.1]
    · cases hok
theorem coX {id : Nat} (h : EO Q (.exit id) base l w) : CO P (.exit id) Q base l w := ⟨fun hi => wp_exit (h.h hi)⟩
theorem eoTx {N : Act → World → Prop} {i : Nat} (h : EO Q (.exit i) base l w) : EO (Exit.then N Q) (.exit i) base l w := ⟨fun hi => h.h hi⟩
theorem eoBx {i : Nat} (h : EO Q .normal base l w) : EO (Exit.inBlock i Q) (.exit i) base l w := ⟨fun hi => by simp only [Exit.inBlock, if_true]; exact h.h hi⟩
variable {S : World → Prop}
end
structure RowK where
  b : Nat
  t : TypeId
  cs : Cells
def RowsAt (w : World) (rs : List RowK) : Prop := ∀ (i : Nat) (r : RowK), rs[i]? = some r → ∃ full, Row w r.b r.t full ∧ Kn r.cs full
def Dis (rs : List RowK) : Prop := ∀ (i j : Nat) (r q : RowK), rs[i]? = some r → rs[j]? = some q → i ≠ j → r.b ≠ q.b
structure Touch (L : List Nat) (w w' : World) : Prop where
  os : w'.os = w.os
  tape : w'.tape = w.tape
  output : w'.output = w.output
  size : w.heap.size ≤ w'.heap.size
  block : ∀ b, b < w.heap.size → b ∉ L → w'.heap[b]? = w.heap[b]?
theorem Touch.refl (L : List Nat) (w : World) : Touch L w w := ⟨rfl, rfl, rfl, Nat.le_refl _, fun _ _ _ => rfl⟩
theorem Touch.trans {L : List Nat} {a b c : World} (h : Touch L a b) (k : Touch L b c) : Touch L a c :=
  ⟨k.os.trans h.os, k.tape.trans h.tape, k.output.trans h.output, Nat.le_trans h.size k.size, fun i hi n => (k.block i (Nat.lt_of_lt_of_le hi h.size) n).trans (h.block i hi n)⟩
theorem Touch.below {w w' : World} (h : Touch [] w w') : Below w.heap.size w w' := ⟨h.os, h.tape, h.output, h.size, fun b hb => h.block b hb (by simp)⟩
theorem Touch.of_below {L : List Nat} {w w' : World} (h : Below w.heap.size w w') : Touch L w w' := ⟨h.os, h.tape, h.output, h.size, fun b hb _ => h.block b hb⟩
structure Many (w0 : World) (L : List Nat) (rs : List RowK) (w : World) : Prop where
  rows : RowsAt w rs
  dis : Dis rs
  own : ∀ (i : Nat) (r : RowK), rs[i]? = some r → r.b ∈ L ∨ w0.heap.size ≤ r.b
  touch : Touch L w0 w
theorem Many.begin (w : World) : Many w [] [] w := ⟨fun i r h => by simp at h, fun i j r q h => by simp at h, fun i r h => by simp at h, .refl ..⟩
theorem Many.below {w0 w w' : World} {L : List Nat} {rs : List RowK} (h : Many w0 L rs w) (k : Below w.heap.size w w') : Many w0 L rs w' :=
  ⟨fun i r hr => by obtain ⟨full, h1, h2⟩ := h.rows i r hr; exact ⟨full, h1.below k h1.lt, h2⟩, h.dis, h.own, h.touch.trans (.of_below k)⟩
theorem Many.alloc {w0 w : World} {L : List Nat} {rs : List RowK} (h : Many w0 L rs w) (t : TypeId) (cells : Array Value) : Many w0 L (rs ++ [⟨w.heap.size, t, cells.toList.map some⟩]) (w.alloc (.cells cells t)) := by
  have lt : ∀ (i : Nat) (r : RowK), rs[i]? = some r → r.b < w.heap.size := fun i r hr => by obtain ⟨full, h1, _⟩ := h.rows i r hr; exact h1.lt
  have at_ : ∀ (i : Nat) (r : RowK), (rs ++ [⟨w.heap.size, t, cells.toList.map some⟩])[i]? = some r → rs[i]? = some r ∨ (i = rs.length ∧ r = ⟨w.heap.size, t, cells.toList.map some⟩) := fun i r hr => by
    by_cases hi : i < rs.length
    · rw [List.getElem?_append_left hi] at hr; exact .inl hr
    · rw [List.getElem?_append_right (by omega)] at hr
      cases hk : i - rs.length with
      | zero => rw [hk] at hr; injection hr with hr; exact .inr ⟨by omega, hr.symm⟩
      | succ n => rw [hk] at hr; cases hr
  refine ⟨fun i r hr => ?_, fun i j r q hr hq hij => ?_, fun i r hr => ?_, h.touch.trans (.of_below (Below.alloc (Below.refl _ _) (Nat.le_refl _) _))⟩
  · rcases at_ i r hr with h1 | ⟨_, rfl⟩
    · obtain ⟨full, h1, h2⟩ := h.rows i r h1
      exact ⟨full, h1.alloc _, h2⟩
    · exact ⟨cells, Row.new w t cells, by simp, fun k v hv => by
        have : cells.toList[k]? = some v := by
          rw [List.getElem?_map] at hv
          cases hl : cells.toList[k]? with
          | none => rw [hl] at hv; cases hv
          | some u => rw [hl] at hv; injection hv with hv
        simpa using this⟩
  · rcases at_ i r hr with h1 | ⟨e1, rfl⟩ <;> rcases at_ j q hq with h2 | ⟨e2, rfl⟩
    · exact h.dis i j r q h1 h2 hij
    · exact Nat.ne_of_lt (lt i r h1)
    · exact (Nat.ne_of_lt (lt j q h2)).symm
    · omega
  · rcases at_ i r hr with h1 | ⟨_, rfl⟩
    · exact h.own i r h1
    · exact .inr h.touch.size
theorem Many.turn {w0 w w' : World} {L : List Nat} {rs : List RowK} {i : Nat} {r : RowK} {cs : Cells} {full : Array Value} (h : Many w0 L rs w) (hr : rs[i]? = some r) (hrow : Row w' r.b r.t full) (hk : Kn cs full) (hb : Besides r.b r.b w w') : Many w0 L (rs.set i ⟨r.b, r.t, cs⟩) w' := by
  have hi : i < rs.length := (List.getElem?_eq_some_iff.1 hr).1
  have at_ : ∀ (j : Nat) (q : RowK), (rs.set i ⟨r.b, r.t, cs⟩)[j]? = some q → (i = j ∧ q = ⟨r.b, r.t, cs⟩) ∨ (i ≠ j ∧ rs[j]? = some q) := fun j q hq => by
    by_cases e : i = j
    · subst e
      rw [List.getElem?_set_self hi] at hq
      injection hq with hq
      exact .inl ⟨rfl, hq.symm⟩
    · rw [List.getElem?_set_ne e] at hq
      exact .inr ⟨e, hq⟩
  refine ⟨fun j q hq => ?_, fun j k q s hq hs hjk => ?_, fun j q hq => ?_, ⟨hb.os.trans h.touch.os, hb.tape.trans h.touch.tape, hb.output.trans h.touch.output, Nat.le_trans h.touch.size hb.size, fun c hc hn => ?_⟩⟩
  · rcases at_ j q hq with ⟨e, rfl⟩ | ⟨e, h1⟩
    · exact ⟨full, hrow, hk⟩
    · obtain ⟨f2, h2, h3⟩ := h.rows j q h1
      have hne := h.dis i j r q hr h1 e
      exact ⟨f2, h2.of (hb.block q.b h2.lt (Ne.symm hne) (Ne.symm hne)), h3⟩
  · rcases at_ j q hq with ⟨e1, rfl⟩ | ⟨e1, h1⟩ <;> rcases at_ k s hs with ⟨e2, rfl⟩ | ⟨e2, h2⟩
    · omega
    · exact h.dis i k r s hr h2 e2
    · exact h.dis j i q r h1 hr (Ne.symm e1)
    · exact h.dis j k q s h1 h2 hjk
  · rcases at_ j q hq with ⟨e, rfl⟩ | ⟨e, h1⟩
    · exact h.own i r hr
    · exact h.own j q h1
  · have hne : c ≠ r.b := by
      rcases h.own i r hr with e | e
      · exact fun x => hn (x ▸ e)
      · omega
    exact (hb.block c (Nat.lt_of_lt_of_le hc h.touch.size) hne hne).trans (h.touch.block c hc hn)
def newOf (P : Program) (ρ : Operand → Value) : Op → Option ((Nat → Value) × TypeId × Array Value)
  | .alloc t => match P.info? t with
    | some i => match i.zero with | some z => some (fun h => .pointer (some ⟨h, 0, none⟩), t, z.cells) | none => none
    | none => none
  | .box t x => some (fun h => .pointer (some ⟨h, 0, none⟩), t, (ρ x).cells)
  | .buildSlice t len parts => match P.underlying t with
    | some (.slice e) => some (fun h => .slice (some ⟨h, 0, none⟩) len len, e, (parts.toList.map fun q => ρ q.2).toArray)
    | _ => none
  | _ => none
def memO : Op → Bool
  | .load .. | .store .. => true
  | _ => false
structure EvM1 where
  hs : List Nat
  l : Slots
  rs : List RowK
  k : Nat
  fs : List ((World → Result Next) × (World → Result Next))
  bs : List (Nat × Nat)
def evP (P : Program) (W : World) (n : Nat) (base : List Value) (l : Slots) (o : Oper) : Option (Slots × List ((World → Result Next) × (World → Result Next))) :=
  match o.dst, o.op with
  | some d, .move x => bif Nat.blt d n then some ((d, evO base l x) :: l, []) else none
  | some d, .assign x => bif Nat.blt d n then some ((d, evO base l x) :: l, []) else none
  | some d, op => match (execOp (evO base l) o).run P W with
    | .ok (.value v) _ => bif Nat.blt d n then some ((d, v) :: l, [(fun w => (execOp (evO base l) o).run P w, fun w => .ok (.value v) w)]) else none
    | _ => none
  | _, _ => none
def em1 (P : Program) (W : World) (h0 n : Nat) (base : List Value) (l : Slots) (rs : List RowK) (k : Nat) (hs : List Nat) (o : Oper) : Option EvM1 :=
  match newOf P (evO base l) o.op, o.dst with
  | some (mk, t, cells), some d => bif Nat.blt d n then some ⟨hs, (d, mk (h0 + k)) :: l, rs ++ [⟨h0 + k, t, cells.toList.map some⟩], k + 1, [(fun w => (execOp (evO base l) o).run P w, fun w => .ok (.value (mk w.heap.size)) (w.alloc (.cells cells t)))], []⟩ else none
  | some _, none => none
  | none, _ => match memO o.op, hs with
    | true, i :: r => match rs[i]? with
      | some q => match ev1 P W q.b n base l q.cs o with
        | some e => some ⟨r, e.l, rs.set i ⟨q.b, q.t, e.cs⟩, k, e.fs, e.bs⟩
        | none => none
      | none => none
    | true, [] => none
    | false, _ => match evP P W n base l o with
      | some (l', fs) => some ⟨hs, l', rs, k, fs, []⟩
      | none => none
structure EvM where
  ok : Bool
  l : Slots
  rs : List RowK
  k : Nat
  fs : List ((World → Result Next) × (World → Result Next))
  bs : List (Nat × Nat)
def evm (P : Program) (ops : Array Oper) (W : World) (h0 n : Nat) (base : List Value) : List Oper → List Nat → Slots → List RowK → Nat → List ((World → Result Next) × (World → Result Next)) → List (Nat × Nat) → EvM
  | [], _, l, rs, k, fs, bs => ⟨true, l, rs, k, fs, bs⟩
  | o :: r, hs, l, rs, k, fs, bs => match wantO ops n base l o with
    | some true => match em1 P W h0 n base l rs k hs o with
      | some e => evm P ops W h0 n base r e.hs e.l e.rs e.k (e.fs ++ fs) (e.bs ++ bs)
      | none => ⟨false, l, rs, k, fs, bs⟩
    | some false => match o.dst with
      | some d => bif Nat.blt d n then evm P ops W h0 n base r hs ((d, undef) :: l) rs k fs bs else ⟨false, l, rs, k, fs, bs⟩
      | none => ⟨false, l, rs, k, fs, bs⟩
    | none => ⟨false, l, rs, k, fs, bs⟩
section
variable {P : Program} {ops : Array Oper} {Q : Exit → Act → World → Prop} {base : List Value} {rest : List Oper} {l : Slots} {w w0 : World} {o : Oper} {rs : List RowK} {k h0 : Nat} {hs : List Nat} {L : List Nat}
theorem em1_sound {W : World} {e : EvM1} (hg : wantO ops base.length base l o = some true) (he : em1 P W h0 base.length base l rs k hs o = some e) (hf : ∀ x ∈ e.fs, x.1 = x.2) (hb : ∀ x ∈ e.bs, x.1 = x.2) (hm : Many w0 L rs w) (hz : w.heap.size = h0 + k)
    (h : ∀ w', Many w0 L e.rs w' → w'.heap.size = h0 + e.k → WO P ops Q base rest e.l w') : WO P ops Q base (o :: rest) l w := by
  unfold em1 at he
  split at he
  · rename_i mk t cells d hn hd
    cases hlt : Nat.blt d base.length <;> rw [hlt] at he
    · cases he
    · injection he with he; subst he
      have hrun := congrFun (hf _ List.mem_cons_self) w
      have hk := h (w.alloc (.cells cells t)) (by have := hm.alloc t cells; rw [hz] at this; exact this) (by show _ = h0 + (k + 1); rw [World.size_alloc, hz]; omega)
      refine ⟨fun hi => list_make d (mk w.heap.size) hd (wantO_sound hg hi) (w' := w.alloc (.cells cells t)) (by rw [evO_eq hi]; exact hrun) ?_⟩
      rw [put_actO, hz]
      exact hk.h ⟨by simpa [Nat.blt_eq] using hlt, hi⟩
  · cases he
  · split at he
    · rename_i i r hmo
      split at he
      · rename_i q hq
        split at he
        · rename_i e1 he1
          injection he with he; subst he
          obtain ⟨full, hr, hK⟩ := hm.rows i q hq
          exact ev1_sound'x hg he1 hf hb hr hK fun w' full' _ hs' hr' hK' _ hbe => h w' (hm.turn hq hr' hK' hbe) (hs'.trans hz)
        · cases he
      · cases he
    · cases he
    · rename_i hmo
      split at he
      · rename_i l' fs hp
        injection he with he; subst he
        have hk := h w hm hz
        unfold evP at hp
        split at hp
        · rename_i d x hd ho
          cases hlt : Nat.blt d base.length <;> rw [hlt] at hp
          · cases hp
          · injection hp with hp; injection hp with h1 h2; subst h1
            exact step1 hd hg hlt (exMove (.inl ho) w) hk
        · rename_i d x hd ho
          cases hlt : Nat.blt d base.length <;> rw [hlt] at hp
          · cases hp
          · injection hp with hp; injection hp with h1 h2; subst h1
            exact step1 hd hg hlt (exMove (.inr ho) w) hk
        · rename_i d hd n1 n2
          split at hp
          · rename_i v w1 hv
            cases hlt : Nat.blt d base.length <;> rw [hlt] at hp
            · cases hp
            · injection hp with hp; injection hp with h1 h2; subst h1; subst h2
              exact step1 hd hg hlt (congrFun (hf _ List.mem_cons_self) w) hk
          · cases hp
        · cases hp
      · cases he
theorem evm_mem {W : World} : ∀ (os : List Oper) (hs : List Nat) (l : Slots) (rs : List RowK) (k : Nat) (fs bs), (evm P ops W h0 base.length base os hs l rs k fs bs).ok = true →
    (∀ x ∈ fs, x ∈ (evm P ops W h0 base.length base os hs l rs k fs bs).fs) ∧ (∀ x ∈ bs, x ∈ (evm P ops W h0 base.length base os hs l rs k fs bs).bs)
  | [], _, _, _, _, _, _, _ => ⟨fun _ h => h, fun _ h => h⟩
  | o :: r, hs, l, rs, k, fs, bs, hok => by
    unfold evm at hok ⊢
    split at hok
    · split at hok
      · rename_i e he
        have ih := evm_mem r e.hs e.l e.rs e.k (e.fs ++ fs) (e.bs ++ bs) hok
        exact ⟨fun x hx => ih.1 x (List.mem_append_right _ hx), fun x hx => ih.2 x (List.mem_append_right _ hx)⟩
      · cases hok
    · split at hok
      · rename_i d hd
        cases hn : Nat.blt d base.length <;> rw [hn] at hok
        · cases hok
        · exact evm_mem r hs _ rs k fs bs hok
      · cases hok
    · cases hok
theorem evm_sound {W : World} : ∀ (os : List Oper) (hs : List Nat) (l : Slots) (rs : List RowK) (k : Nat) (fs bs) (w : World), (evm P ops W h0 base.length base os hs l rs k fs bs).ok = true →
    (∀ x ∈ (evm P ops W h0 base.length base os hs l rs k fs bs).fs, x.1 = x.2) → (∀ x ∈ (evm P ops W h0 base.length base os hs l rs k fs bs).bs, x.1 = x.2) → Many w0 L rs w → w.heap.size = h0 + k →
    (∀ w', Many w0 L (evm P ops W h0 base.length base os hs l rs k fs bs).rs w' → WO P ops Q base rest (evm P ops W h0 base.length base os hs l rs k fs bs).l w') → WO P ops Q base (os ++ rest) l w
  | [], _, _, _, _, _, _, w, _, _, _, hm, _, h => h w hm
  | o :: r, hs, l, rs, k, fs, bs, w, hok, hf, hb, hm, hz, h => by
    unfold evm at hok hf hb h
    split at hok
    case h_2 hw =>
      simp only [hw] at hf hb h
      split at hok
      · rename_i d hd
        simp only [hd] at hf hb h
        cases hn : Nat.blt d base.length <;> rw [hn] at hok
        · cases hok
        · simp only [hn, cond_true] at hf hb h
          have := evm_sound r hs _ rs k fs bs w hok hf hb hm hz h
          exact ⟨fun hi => list_skip d hd (wantO_sound hw hi) (by rw [put_actO]; exact this.h ⟨by simpa [Nat.blt_eq] using hn, hi⟩)⟩
      · cases hok
    case h_3 => cases hok
    case h_1 hw =>
    simp only [hw] at hf hb h
    split at hok
    · rename_i e he
      simp only [he] at hf hb h
      have hmm := evm_mem r e.hs e.l e.rs e.k (e.fs ++ fs) (e.bs ++ bs) hok
      exact em1_sound hw he (fun x hx => hf x (hmm.1 x (List.mem_append_left _ hx))) (fun x hx => hb x (hmm.2 x (List.mem_append_left _ hx))) hm hz fun w1 hm1 hz1 => evm_sound r e.hs e.l e.rs e.k (e.fs ++ fs) (e.bs ++ bs) w1 hok hf hb hm1 hz1 h
    · cases hok
def okMn (E : EvM) : Prop := (E.ok, E.fs.map (·.1), E.bs.map (·.1)) = (true, E.fs.map (·.2), E.bs.map (·.2))
abbrev eM (P : Program) (ops : Array Oper) (w : World) (base : List Value) (os : List Oper) (hs : List Nat) (l : Slots) (rs : List RowK) : EvM := evm P ops w w.heap.size base.length base os hs l rs 0 [] []
theorem qR (n : Nat) (hs : List Nat) (hm : Many w0 L rs w) (h : ∀ w', Many w0 L (eM P ops w base (rest.take n) hs l rs).rs w' → WO P ops Q base (rest.drop n) (eM P ops w base (rest.take n) hs l rs).l w')
    (hk : okMn (eM P ops w base (rest.take n) hs l rs) := by unfold okMn; kernel_rfl) : WO P ops Q base rest l w := by
  simp only [okMn, Prod.mk.injEq] at hk
  obtain ⟨h1, h3, h4⟩ := hk
  have := evm_sound (ops := ops) (Q := Q) (rest := rest.drop n) (rest.take n) hs l rs 0 [] [] w h1 (pairs_eq h3) (pairs_eq h4) hm rfl h
  rwa [List.take_append_drop] at this
theorem qF (hs : List Nat) (hm : Many w0 L rs w) (h : ∀ w', Many w0 L (eM P ops w base rest hs l rs).rs w' → EO Q .normal base (eM P ops w base rest hs l rs).l w')
    (hk : okMn (eM P ops w base rest hs l rs) := by unfold okMn; kernel_rfl) : WO P ops Q base rest l w := by
  simp only [okMn, Prod.mk.injEq] at hk
  obtain ⟨h1, h3, h4⟩ := hk
  have := evm_sound (ops := ops) (Q := Q) (rest := []) rest hs l rs 0 [] [] w h1 (pairs_eq h3) (pairs_eq h4) hm rfl fun w' k => woE (h w' k)
  rwa [List.append_nil] at this
theorem qE {y : Code} (hs : List Nat) (hm : Many w0 L rs w) (h : ∀ w', Many w0 L (eM P ops w base rest hs l rs).rs w' → CO P y Q base (eM P ops w base rest hs l rs).l w')
    (hk : okMn (eM P ops w base rest hs l rs) := by unfold okMn; kernel_rfl) : WO P ops (Exit.then (y.wp P Q) Q) base rest l w := qF hs hm (fun w' k => eoT (h w' k)) hk
theorem qQ {y : Code} {id : Nat} (hs : List Nat) (hm : Many w0 L rs w) (h : ∀ w', Many w0 L (eM P rest.toArray w base rest hs l rs).rs w' → CO P y Q base (eM P rest.toArray w base rest hs l rs).l w')
    (hk : okMn (eM P rest.toArray w base rest hs l rs) := by unfold okMn; kernel_rfl) : CO P (.seq (.region id rest.toArray false) y) Q base l w := coR (qE hs hm h hk)
theorem Many.drew (h : Many w0 L rs w) : Many w0 L rs w.drew := h.below (Below.refl ..).drew
theorem qC {V : Value} {g : FuncId} {args : Array Value} (hc : Calls P g args w fun e w' => e = .returned V ∧ Below w.heap.size w w') (hm : Many w0 L rs w) (h : ∀ w', Many w0 L rs w' → WO P ops Q base rest (putO o.dst V l) w')
    (hg : wantO ops base.length base l o = some true := by kernel_rfl) (he : (execOp (evO base l) o).run P w = .ok (.enter g args) w := by kernel_rfl) (hd : dstO o.dst base.length = true := by kernel_rfl) : WO P ops Q base (o :: rest) l w :=
  kO hc (fun w' e => h w' (hm.below e)) hg he hd
end
section
variable {P : Program} {ops : Array Oper} {Q : Exit → Act → World → Prop} {base : List Value} {rest : List Oper} {l : Slots} {w w0 : World} {rs : List RowK} {L : List Nat}
def litL (p : Nat → Nat) : Plan → Nat → Slots → Slots
  | [], _, l => l
  | (some d, x) :: r, k, l => litL p r (k + 1) ((d, x.value p k) :: l)
  | (none, _) :: r, k, l => litL p r (k + 1) l
theorem litL_eq (base : List Value) (p : Nat → Nat) : ∀ (M : Plan) (k : Nat) (l : Slots), layL p M k (actO base l).tmps = (actO base (litL p M k l)).tmps
  | [], _, _ => rfl
  | (some d, x) :: r, k, l => by
    have := litL_eq base p r (k + 1) ((d, x.value p k) :: l)
    rw [litL, ← this, layL]
    congr 1
    exact congrArg Act.tmps (put_actO base l (some d) (x.value p k))
  | (none, _) :: r, k, l => litL_eq base p r (k + 1) l
theorem litL_in {n : Nat} (p : Nat → Nat) : ∀ (M : Plan) (k : Nat) (l : Slots), M.all (fun x => dstO x.1 n) = true → inO n l → inO n (litL p M k l)
  | [], _, _, _, h => h
  | (some d, x) :: r, k, l, ha, h => by
    simp only [List.all_cons, Bool.and_eq_true] at ha
    exact litL_in p r (k + 1) _ ha.2 (inO_put (d := some d) (v := x.value p k) ha.1 h)
  | (none, _) :: r, k, l, ha, h => by
    simp only [List.all_cons, Bool.and_eq_true] at ha
    exact litL_in p r (k + 1) l ha.2 h
theorem litA_eq (M : Plan) (p : Nat → Nat) : litA M (actO base l) p = actO base (litL p M 0 l) := by
  unfold litA
  rw [litL_eq]
  rfl
theorem actO_size : (actO base l).tmps.size = base.length := by
  show (ovO base l).toArray.size = _
  rw [List.size_toArray, ovO_length]
theorem coBox {id : Nat} {y : Code} (M : Plan) (hobs : Obs P ops M (actO base l) w 0 ops.toList M) (hend : ∀ (p : Nat → Nat) w', BoxEnd M w p w' → CO P y Q base (litL p M 0 l) w')
    (hm : P.follows .mixedOrders = true := by kernel_rfl) (hB : planB ops M base.length = true := by kernel_rfl) (hd : M.all (fun x => dstO x.1 base.length) = true := by kernel_rfl) : CO P (.seq (.region id ops true) y) Q base l w :=
  ⟨fun hi => wp_seq (region_boxed M hm (by rw [actO_size]; exact hB) hobs fun p w' hb => by rw [litA_eq]; exact (hend p w' hb).h (litL_in p M 0 l hd hi))⟩
theorem coBoxR {id : Nat} {y : Code} (M : Plan) (hobs : Obs P ops M (actO base l) w 0 ops.toList M) (hend : ∀ (p : Nat → Nat) w', BoxEnd M w p w' → CO P y Q base (litL p M 0 l) w')
    (hB : planB ops M base.length = true := by kernel_rfl) (hd : M.all (fun x => dstO x.1 base.length) = true := by kernel_rfl) : CO P (.seq (.region id ops false) y) Q base l w :=
  ⟨fun hi => wp_seq (region_row M (by rw [actO_size]; exact hB) hobs fun p w' hb => by rw [litA_eq]; exact (hend p w' hb).h (litL_in p M 0 l hd hi))⟩
theorem Many.add {b : Nat} {t : TypeId} {cells : Array Value} (h : Many w0 L rs w) (hr : Row w b t cells) (hb : w0.heap.size ≤ b) (hne : ∀ (i : Nat) (r : RowK), rs[i]? = some r → r.b ≠ b) : Many w0 L (rs ++ [⟨b, t, cells.toList.map some⟩]) w := by
  have at_ : ∀ (i : Nat) (r : RowK), (rs ++ [⟨b, t, cells.toList.map some⟩])[i]? = some r → rs[i]? = some r ∨ (i = rs.length ∧ r = ⟨b, t, cells.toList.map some⟩) := fun i r hr => by
    by_cases hi : i < rs.length
    · rw [List.getElem?_append_left hi] at hr; exact .inl hr
    · rw [List.getElem?_append_right (by omega)] at hr
      cases hk : i - rs.length with
      | zero => rw [hk] at hr; injection hr with hr; exact .inr ⟨by omega, hr.symm⟩
      | succ n => rw [hk] at hr; cases hr
  refine ⟨fun i r hi => ?_, fun i j r q hi hj hij => ?_, fun i r hi => ?_, h.touch⟩
  · rcases at_ i r hi with h1 | ⟨_, rfl⟩
    · exact h.rows i r h1
    · exact ⟨cells, hr, by simp, fun k v hv => by
        have : cells.toList[k]? = some v := by
          rw [List.getElem?_map] at hv
          cases hl : cells.toList[k]? with
          | none => rw [hl] at hv; cases hv
          | some u => rw [hl] at hv; injection hv with hv
        simpa using this⟩
  · rcases at_ i r hi with h1 | ⟨e1, rfl⟩ <;> rcases at_ j q hj with h2 | ⟨e2, rfl⟩
    · exact h.dis i j r q h1 h2 hij
    · exact hne i r h1
    · exact (hne j q h2).symm
    · omega
  · rcases at_ i r hi with h1 | ⟨_, rfl⟩
    · exact h.own i r h1
    · exact .inr hb
theorem Many.lt (h : Many w0 L rs w) (i : Nat) (r : RowK) (hr : rs[i]? = some r) : r.b < w.heap.size := by obtain ⟨full, h1, _⟩ := h.rows i r hr; exact h1.lt
theorem Many.fresh {w' : World} {b : Nat} {t : TypeId} {cells : Array Value} (h : Many w0 L rs w) (k : Below w.heap.size w w') (hr : Row w' b t cells) (hb : w.heap.size ≤ b) : Many w0 L (rs ++ [⟨b, t, cells.toList.map some⟩]) w' :=
  (h.below k).add hr (Nat.le_trans h.touch.size hb) fun i r hi => Nat.ne_of_lt (Nat.lt_of_lt_of_le (h.lt i r hi) hb)
theorem Many.row (h : Many w0 L rs w) (i : Nat) {b : Nat} {t : TypeId} (vs : List Value) (e : rs[i]? = some ⟨b, t, vs.map some⟩) : Row w b t vs.toArray := by
  obtain ⟨full, h1, h2⟩ := h.rows i _ e
  have hfull : full = vs.toArray := by
    apply Array.ext_getElem?
    intro k
    by_cases hk : k < vs.length
    · have : (vs.map some)[k]? = some (some vs[k]) := by rw [List.getElem?_map, List.getElem?_eq_getElem hk]; rfl
      rw [h2.at_ k _ this]
      simp [hk]
    · have hs := h2.size
      rw [List.length_map] at hs
      rw [Array.getElem?_eq_none (by omega)]
      simp [hk]
  rw [← hfull]; exact h1
theorem Many.take (h : Many w0 L rs w) (n : Nat) (rs' : List RowK) (e : rs.take n = rs' := by kernel_rfl) : Many w0 L rs' w := by
  have at_ : ∀ (i : Nat) (r : RowK), rs'[i]? = some r → rs[i]? = some r := fun i r hr => by
    rw [← e, List.getElem?_take] at hr
    split at hr
    · exact hr
    · cases hr
  exact ⟨fun i r hi => h.rows i r (at_ i r hi), fun i j r q hi hj hij => h.dis i j r q (at_ i r hi) (at_ j q hj) hij, fun i r hi => h.own i r (at_ i r hi), h.touch⟩
abbrev slotsO (base : List Value) (l : Slots) : Nat → Value := fun i => (ovO base l).getD i undef
def Round {α : Type} (B : α → List Value) (I : α → World → Prop) (μ : α → Nat) (x : α) (a : Act) (w : World) : Prop := ∃ x', a = actO (B x') [] ∧ I x' w ∧ μ x' < μ x
theorem coLoop {α : Type} {c : Code} (B : α → List Value) (I : α → World → Prop) (μ : α → Nat) (x0 : (Nat → Value) → α) (h0 : I (x0 (slotsO base l)) w) (round : ∀ x w, I x w → CO P c (Exit.then (Round B I μ x) Q) (B x) [] w) (e : ovO base l = B (x0 (slotsO base l)) := by kernel_rfl) : CO P (.loop c) Q base l w := ⟨fun hi => by
  have e2 : actO base l = actO (B (x0 (slotsO base l))) [] := by rw [← e]; rfl
  refine wp_loop_ghost (fun n a w => ∃ x, μ x = n ∧ a = actO (B x) [] ∧ I x w) (μ (x0 (slotsO base l))) ⟨_, rfl, e2, h0⟩ ?_
  rintro n a w1 ⟨x, rfl, rfl, hx⟩
  refine wp_mono ((round x w1 hx).h trivial) ?_
  intro e a' w' hq
  cases e with
  | normal =>
    obtain ⟨x', h1, h2, h3⟩ := hq
    exact ⟨μ x', h3, x', rfl, h1, h2⟩
  | _ => exact hq⟩
theorem eoRound {α : Type} {B : α → List Value} {I : α → World → Prop} {μ : α → Nat} {x : α} (x' : (Nat → Value) → α) (hI : I (x' (slotsO base l)) w) (hμ : μ (x' (slotsO base l)) < μ x) (e : ovO base l = B (x' (slotsO base l)) := by kernel_rfl) : EO (Exit.then (Round B I μ x) Q) .normal base l w :=
  ⟨fun hi => ⟨x' (slotsO base l), by rw [← e]; rfl, hI, hμ⟩⟩
end
section
variable {ops : Array Oper} {Q : Exit → Act → World → Prop} {base : List Value} {rest : List Oper} {l : Slots} {w : World} {o : Oper}
theorem qA {o : Oper} (s x : Operand) (w0 : World) (bs B : Nat) (v : Value) (n : Nat) (got : List Int) (A : Option Addr) (c : Nat) (ys : List Int) (hB : Below w0.heap.size w0 w) (hb0 : w0.heap.size ≤ bs) (hbs : bs ≤ w.heap.size)
    (hown : w.ownsRow bs 5 1 v n (bvs got)) (hy : BytesIn w B A ys) (hn : A = none → c = 0) (hmax : n + ys.length ≤ 140737488355328)
    (h : ∀ v' w', w'.ownsRow bs 5 1 v' (n + ys.length) (bvs (got ++ ys)) → Below w0.heap.size w0 w' → bs ≤ w'.heap.size → WO Tryz.prog ops Q base rest (putO o.dst v' l) w')
    (ho : o.op = .call { callee := .builtin .append, args := #[s, x], argTypes := #[25, 25] } := by exact rfl) (hg : o.guard = none := by exact rfl) (hs : evO base l s = v := by kernel_rfl) (hx : evO base l x = .slice A ys.length c := by kernel_rfl) (hd : dstO o.dst base.length = true := by kernel_rfl) : WO Tryz.prog ops Q base (o :: rest) l w :=
  ⟨fun hi => oE (c := c) (A := A) w0 bs ys hB hb0 hbs hown hy hn hmax (fun v' w' h1 h2 h3 => by rw [put_actO]; exact (h v' w' h1 h2 h3).h (inO_put hd hi)) hg ho (by rw [evO_eq hi]; exact hs) (by rw [evO_eq hi]; exact hx)⟩
end
theorem Many.byte {w0 w : World} {L : List Nat} {b : Nat} {t : TypeId} {x : Int} {rs : List RowK} (h : Many w0 L rs w) (i : Nat) (e : rs[i]? = some ⟨b, t, [some (.int .u8 x)]⟩) : BytesIn w w.heap.size (some ⟨b, 0, none⟩) [x] := by
  obtain ⟨full, h1, h2⟩ := h.rows i _ e
  intro j y hy
  obtain ⟨rfl, rfl⟩ : j = 0 ∧ y = x := by
    cases j with
    | zero => simp at hy; exact ⟨rfl, hy.symm⟩
    | succ j => simp at hy
  refine ⟨_, rfl, h1.lt, ?_⟩
  show w.cell? ⟨b, 0, none⟩ = _
  rw [h1.cell 0]
  exact h2.at_ 0 _ rfl
structure EndsS where
  got : List Int
  v : Value
  y : Nat → Value
section
variable {P : Program} {ops : Array Oper} {Q : Exit → Act → World → Prop} {base : List Value} {rest : List Oper} {l : Slots} {w : World} {o : Oper}
theorem wA1 (d : Nat) (V : Value) (he : (execOp (actO base l).eval o).run P w = .ok (.value V) w) (h : WO P ops Q base rest ((d, V) :: l) w) (hd : o.dst = some d := by exact rfl) (hg : wantO ops base.length base l o = some true := by kernel_rfl) (hn : Nat.blt d base.length = true := by kernel_rfl) : WO P ops Q base (o :: rest) l w :=
  ⟨fun hi => (w1 d V (by rw [← evO_eq hi]; exact he) h hd hg hn).h hi⟩
end
theorem pl_and7 (y : Int) : bits BinOp.and IntKind.i64 y 7 = y % 8 := by
  have e : (BitVec.ofInt 64 y &&& BitVec.ofInt 64 7).toNat = (y % 8).toNat := by
    rw [BitVec.toNat_and, show (BitVec.ofInt 64 7).toNat = 2 ^ 3 - 1 by decide, Nat.and_two_pow_sub_one_eq_mod, BitVec.toNat_ofInt]
    omega
  show IntKind.i64.wrap ((BitVec.ofInt 64 y &&& BitVec.ofInt 64 7).toNat : Int) = _
  rw [e, IntKind.wrap_i64]
  omega
theorem ixs (b n c k : Nat) (h : k < n) (w : World) : (Instr.indexAt 34 (.slice (some ⟨b, 0, none⟩) n c) (.int .i64 (k : Int))).run Tryz.prog w = .ok (.pointer (some ⟨b, k, none⟩)) w := by
  simp [go_sem, h, Addr.add]; omega
theorem one_ne {a b : Nat} {t : TypeId} {cs : Cells} (h : a ≠ b) : ∀ (i : Nat) (r : RowK), ([⟨a, t, cs⟩] : List RowK)[i]? = some r → r.b ≠ b := fun i r hi => by
  cases i with
  | zero => cases hi; exact h
  | succ i => cases hi
theorem three_ne {a b c x : Nat} {t u v : TypeId} {cs ds es : Cells} (h : a ≠ x) (k : b ≠ x) (m : c ≠ x) : ∀ (i : Nat) (r : RowK), ([⟨a, t, cs⟩, ⟨b, u, ds⟩, ⟨c, v, es⟩] : List RowK)[i]? = some r → r.b ≠ x := fun i r hi => by
  match i with
  | 0 => cases hi; exact h
  | 1 => cases hi; exact k
  | 2 => cases hi; exact m
  | i + 3 => cases hi
theorem plane_row {w : World} {b : Nat} {t : TypeId} {xs : List Int} (h : Row w b t (bvs xs).toArray) : BytesIn w w.heap.size (some ⟨b, 0, none⟩) xs := fun j x hx => by
  refine ⟨_, rfl, h.lt, ?_⟩
  rw [show (⟨b, 0, none⟩ : Addr).add j = ⟨b, j, none⟩ by simp [Addr.add]; omega, h.cell j]
  simp [bvs, hx]
def headOf (q : Nat) : List Int := [[], [203], [237], [221], [253], [221, 203, 133], [253, 203, 127]].getD q []
structure PlaneS where
  c : Nat
  y : Nat → Value
def planesB (pl : Int) (A : Option Addr) (n cap b bT : Nat) (x : PlaneS) : List Value := [x.y 0, .int .i64 pl, .slice A n cap, .pointer (some ⟨b, 0, none⟩), x.y 4, x.y 5, x.y 6, x.y 7, .slice (some ⟨bT, 0, none⟩) 7 7, .int .i64 (x.c : Int), x.y 10, x.y 11, x.y 12, x.y 13, x.y 14, x.y 15, x.y 16, x.y 17, x.y 18, x.y 19, x.y 20, x.y 21, x.y 22, x.y 23, x.y 24, x.y 25, x.y 26, x.y 27, x.y 28, x.y 29, x.y 30, x.y 31, x.y 32, x.y 33, x.y 34, x.y 35, x.y 36, x.y 37, x.y 38, x.y 39, x.y 40, x.y 41, x.y 42, x.y 43, x.y 44, x.y 45, x.y 46, x.y 47, x.y 48, x.y 49, x.y 50, x.y 51, x.y 52, x.y 53, x.y 54, x.y 55, x.y 56, x.y 57, x.y 58, x.y 59, x.y 60, x.y 61, x.y 62, x.y 63, x.y 64, x.y 65, x.y 66, x.y 67, x.y 68, x.y 69, x.y 70, x.y 71, x.y 72, x.y 73, x.y 74, x.y 75, x.y 76, x.y 77, x.y 78, x.y 79, x.y 80, x.y 81, x.y 82, x.y 83, x.y 84, x.y 85, x.y 86, x.y 87, x.y 88, x.y 89, x.y 90, x.y 91, x.y 92, x.y 93, x.y 94, x.y 95, x.y 96, x.y 97, x.y 98, x.y 99, x.y 100, x.y 101, x.y 102, x.y 103, x.y 104, x.y 105, x.y 106, x.y 107, x.y 108, x.y 109, x.y 110, x.y 111, x.y 112]
def planesI (Z : World) (x : PlaneS) (W : World) : Prop := Below Z.heap.size Z W ∧ x.c ≤ 256
def planesC (pl : Int) (A : Option Addr) (n cap b bT c : Nat) (x : EndsS) : List Value := [x.y 0, .int .i64 pl, .slice A n cap, .pointer (some ⟨b, 0, none⟩), x.y 4, x.y 5, x.y 6, x.y 7, .slice (some ⟨bT, 0, none⟩) 7 7, .int .i64 (c : Int), x.v, x.y 11, x.y 12, x.y 13, x.y 14, x.y 15, x.y 16, x.y 17, x.y 18, x.y 19, x.y 20, x.y 21, x.y 22, x.y 23, x.y 24, x.y 25, x.y 26, x.y 27, x.y 28, x.y 29, x.y 30, x.y 31, x.y 32, x.y 33, x.y 34, x.y 35, x.y 36, x.y 37, x.y 38, x.y 39, x.y 40, x.y 41, x.y 42, x.y 43, x.y 44, x.y 45, x.y 46, x.y 47, x.y 48, x.y 49, x.y 50, x.y 51, x.y 52, x.y 53, x.y 54, x.y 55, x.y 56, x.y 57, x.y 58, x.y 59, x.y 60, x.y 61, x.y 62, x.y 63, x.y 64, x.y 65, x.y 66, x.y 67, x.y 68, x.y 69, x.y 70, x.y 71, x.y 72, x.y 73, x.y 74, x.y 75, x.y 76, x.y 77, x.y 78, x.y 79, x.y 80, x.y 81, x.y 82, x.y 83, x.y 84, x.y 85, x.y 86, x.y 87, x.y 88, x.y 89, x.y 90, x.y 91, x.y 92, x.y 93, x.y 94, x.y 95, x.y 96, x.y 97, x.y 98, x.y 99, x.y 100, x.y 101, x.y 102, x.y 103, x.y 104, x.y 105, x.y 106, x.y 107, x.y 108, x.y 109, x.y 110, x.y 111, x.y 112]
def planesJ (Z : World) (x : EndsS) (W : World) : Prop := Below Z.heap.size Z W ∧ W.ownsRow Z.heap.size 5 1 x.v x.got.length (bvs x.got) ∧ Bytes8 x.got ∧ x.got.length ≤ 24
theorem nextPlanes_walk (g : Rg) (pl : Int) (A : Option Addr) (cap : Nat) (xs : List Int) (hg : RgB g) (w : World) (hc : xs.length ≤ cap) (hm : cap ≤ maxLen) (h8 : Bytes8 xs) (hin : BytesIn w w.heap.size A xs) (hn : A = none → cap = 0) (hM : Masks w) (hD : Digits w) (hC : Courses w) (hO : Modes w) :
    Calls Tryz.prog 5 #[regsV g, .int .i64 pl, .slice A xs.length cap] w fun e w' => e = .returned (.bool true) ∧ Below w.heap.size w w' := by
  have ht : Tabs w w.heap.size := (NextTabs.mk hM hC hD hO).tabs
  obtain ⟨G, hG⟩ : ∃ G : Rg, G = { g with halted := false } := ⟨_, rfl⟩
  have hGb : RgB G := by subst hG; exact ⟨hg.af, hg.bc, hg.de, hg.hl, hg.af2, hg.bc2, hg.de2, hg.hl2, hg.ix, hg.iy, hg.sp, hg.pc, hg.wz, hg.i, hg.r, hg.mode⟩
  obtain ⟨q, hq, hq7⟩ : ∃ q : Nat, (bits BinOp.and IntKind.i64 pl 7).tmod 7 = (q : Int) ∧ q < 7 := ⟨((pl % 8) % 7).toNat, by rw [pl_and7, Int.tmod_eq_emod_of_nonneg (by omega)]; omega, by omega⟩
  go_enter Tryz.func5, Tryz.ntmps5
  refine coStart <| qQ [] (Many.begin w) fun w1 hm1 => coR <| qC (awake12_any w1 (ht.below hm1.touch.below)) hm1 fun w2 hm2 => qE [] hm2 fun w3 hm3 => coS <| qQ [] hm3 fun w4 hm4 => coF <| coSkip <| eoT <| coS <| qQ [] hm4 fun w5 hm5 => coI (decide ((xs.length : Int) > 20)) (fun _ => qQ [] hm5 fun w hm => coRet <| eoTr <| eoIr (.bool true) ⟨rfl, hm.touch.below⟩) fun hle => coSkip <| eoT <| qQ [0] hm5 fun w6 hm6 => qQ [] hm6 fun w7 hm7 => coS <| qQ [] hm7 fun Z hmZ => coB <| ?_
  have hle : xs.length ≤ 20 := by have : ¬ ((xs.length : Int) > 20) := by simpa using hle
                                  omega
  have hbZ := hmZ.touch.below
  have rZ : Row Z w.heap.size 24 (regsC G) := by rw [hG]; exact hmZ.row 0 (regsC { g with halted := false }).toList (by kernel_rfl)
  obtain ⟨s0, hs0⟩ : ∃ s0, s0 = w6.heap.size := ⟨_, rfl⟩
  obtain ⟨bT, hbT⟩ : ∃ bT, bT = w6.heap.size + 7 := ⟨_, rfl⟩
  have hhead : ∃ cells, Row Z bT 25 cells ∧ ∃ bh, cells[q]? = some (.slice (some ⟨bh, 0, none⟩) (headOf q).length (headOf q).length) ∧ BytesIn Z Z.heap.size (some ⟨bh, 0, none⟩) (headOf q) := by
    refine ⟨#[.slice (some ⟨s0, 0, none⟩) 0 0, .slice (some ⟨s0 + 1, 0, none⟩) 1 1, .slice (some ⟨s0 + 2, 0, none⟩) 1 1, .slice (some ⟨s0 + 3, 0, none⟩) 1 1, .slice (some ⟨s0 + 4, 0, none⟩) 1 1, .slice (some ⟨s0 + 5, 0, none⟩) 3 3, .slice (some ⟨s0 + 6, 0, none⟩) 3 3], ?_, s0 + q, ?_, ?_⟩
    · rw [hbT, hs0]; exact hmZ.row 8 [.slice (some ⟨w6.heap.size, 0, none⟩) 0 0, .slice (some ⟨w6.heap.size + 1, 0, none⟩) 1 1, .slice (some ⟨w6.heap.size + 2, 0, none⟩) 1 1, .slice (some ⟨w6.heap.size + 3, 0, none⟩) 1 1, .slice (some ⟨w6.heap.size + 4, 0, none⟩) 1 1, .slice (some ⟨w6.heap.size + 5, 0, none⟩) 3 3, .slice (some ⟨w6.heap.size + 6, 0, none⟩) 3 3] (by kernel_rfl)
    · match q, hq7 with
      | 0, _ => rfl
      | 1, _ => rfl
      | 2, _ => rfl
      | 3, _ => rfl
      | 4, _ => rfl
      | 5, _ => rfl
      | 6, _ => rfl
    · rw [hs0]
      match q, hq7 with
      | 0, _ => exact BytesIn.nil _ _ _
      | 1, _ => exact plane_row (t := 5) (hmZ.row 2 (bvs [203]) (by kernel_rfl))
      | 2, _ => exact plane_row (t := 5) (hmZ.row 3 (bvs [237]) (by kernel_rfl))
      | 3, _ => exact plane_row (t := 5) (hmZ.row 4 (bvs [221]) (by kernel_rfl))
      | 4, _ => exact plane_row (t := 5) (hmZ.row 5 (bvs [253]) (by kernel_rfl))
      | 5, _ => exact plane_row (t := 5) (hmZ.row 6 (bvs [221, 203, 133]) (by kernel_rfl))
      | 6, _ => exact plane_row (t := 5) (hmZ.row 7 (bvs [253, 203, 127]) (by kernel_rfl))
  have hh8 : Bytes8 (headOf q) ∧ (headOf q).length ≤ 3 := by
    match q, hq7 with
    | 0, _ => exact ⟨(fun x h => by cases h), by decide⟩
    | 1, _ | 2, _ | 3, _ | 4, _ => exact ⟨(fun x h => by simp [headOf] at h; subst h; exact ⟨by decide, by decide⟩), by decide⟩
    | 5, _ | 6, _ => exact ⟨(fun x h => by simp [headOf] at h; rcases h with rfl | rfl | rfl <;> exact ⟨by decide, by decide⟩), by decide⟩
  obtain ⟨tc, rT, bh, htc, hbh⟩ := hhead
  refine coLoop (planesB pl A xs.length cap w.heap.size bT) (planesI Z) (fun x => 257 - x.c) (fun y => ⟨0, y⟩) ⟨Below.refl .., by show (0 : Nat) ≤ 256; omega⟩ ?_ (by rw [hbT]; kernel_rfl)
  clear hmZ hm7 hm6 hm5 hm4 hm3 hm2 hm1 hbT
  rintro ⟨c, y⟩ W ⟨hB, hc256⟩
  have hc256 : c ≤ 256 := hc256
  refine coS <| qQ [] (Many.begin W) fun wa hma => coI (decide ((c : Int) < 256)) (fun hlt => coSkip <| eoT <| coS <| coB <| qQ [] hma fun wb hmb => coR <| qR 4 [] hmb fun w0 hm0 => ?_) fun hge => coX <| eoTx <| eoTx <| eoBx <| eoT <| qQ [] hma fun wz hmz => coRet <| eoIr (.bool true) ⟨rfl, hbZ.trans ((hB.trans (hmz.touch.below.mono hB.size)).mono hbZ.size)⟩
  have hcl : c < 256 := by have : (c : Int) < 256 := by simpa using hlt
                           omega
  have k0 := hm0.touch.below
  have hZ0 : Below Z.heap.size Z w0 := hB.trans (k0.mono hB.size)
  have rT0 := rT.below hZ0 rT.lt
  refine kBj 46 (.int .i64 (bits BinOp.and IntKind.i64 pl 7)) (.int .i64 7) (.int .i64 (q : Int)) (egI _ _ _ _ _) (fun w => by rw [← hq]; kernel_rfl) <| wA1 47 (.pointer (some ⟨bT, q, none⟩)) (heIndex rfl (by kernel_rfl) (by kernel_rfl) (ixs _ 7 7 q hq7 _)) <| wA1 48 (.slice (some ⟨bh, 0, none⟩) (headOf q).length (headOf q).length) (heLoad (ad := ⟨bT, q, none⟩) rfl (by kernel_rfl) (loadOne Tryz.underlying25 rfl (by rw [rT0.cell q]; exact htc))) <|
    qA (.tmp 42) (.tmp 48) w0 w0.heap.size Z.heap.size (.slice none 0 0) 0 [] (some ⟨bh, 0, none⟩) (headOf q).length (headOf q) (Below.refl ..) (Nat.le_refl _) (Nat.le_refl _) (World.ownsRow_nil ..) (hbh.keep fun b hb => hZ0.block b hb) (fun e => by cases e) (by have := hh8.2; omega) fun v1 w1 own1 hB1 hs1 => qE [] (Many.begin w1) fun w2 hm2 => coR <| qR 4 [] hm2 fun w3 hm3 => ?_
  have k3 := hm3.touch.below
  have hB3 := hB1.trans (k3.mono hB1.size)
  refine qA (.tmp 50) (.tmp 53) w0 w0.heap.size w3.heap.size v1 _ _ (some ⟨w2.heap.size, 0, none⟩) 1 [(c : Int) % 256] hB3 (Nat.le_refl _) hB3.size (own_below own1 k3) (hm3.byte (t := 5) 0 (by kernel_rfl)) (fun e => by cases e) (by have := hh8.2; show 0 + (headOf q).length + 1 ≤ _; omega) fun v2 w4 own2 hB4 hs2 => qE [] (Many.begin w4) fun w5 hm5 => coR <| qR 2 [] hm5 fun w6 hm6 => ?_
  have k6 := hm6.touch.below
  have hB6 := hB4.trans (k6.mono hB4.size)
  have hZ6 := hZ0.trans (hB6.mono hZ0.size)
  have hw6 := hbZ.trans (hZ6.mono hbZ.size)
  refine qA (.tmp 55) (.tmp 56) w0 w0.heap.size w.heap.size v2 _ _ A cap xs hB6 (Nat.le_refl _) hB6.size (own_below own2 k6) (hin.below hw6) hn (by have := hh8.2; show 0 + (headOf q).length + 1 + xs.length ≤ _; omega) fun v3 w7 own3 hB7 hs3 => qE [] (Many.begin w7) fun w8 hm8 => coS <| coB <| coLoop (planesC pl A xs.length cap w.heap.size bT c) (planesJ w0) (fun x => 30 - x.got.length) (fun y => ⟨[] ++ headOf q ++ [(c : Int) % 256] ++ xs, v3, y⟩) ?_ ?_
  · have k8 := hm8.touch.below
    refine ⟨hB7.trans (k8.mono hB7.size), ?_, ?_, ?_⟩
    · have := own_below own3 k8
      show w8.ownsRow _ _ _ v3 ([] ++ headOf q ++ [(c : Int) % 256] ++ xs).length _
      rw [show (([] : List Int) ++ headOf q ++ [(c : Int) % 256] ++ xs).length = 0 + (headOf q).length + [(c : Int) % 256].length + xs.length by simp; omega]
      exact this
    · show Bytes8 ([] ++ headOf q ++ [(c : Int) % 256] ++ xs)
      rw [List.nil_append]
      exact (hh8.1.append (byte_list ⟨by omega, by omega⟩)).append h8
    · show ([] ++ headOf q ++ [(c : Int) % 256] ++ xs).length ≤ 24
      have := hh8.2
      simp; omega
  clear own3 own2 own1 hm8 hm6 hm5 hm3 hm2 hm0 k6 k3 hB7 hB6 hB4 hB3 hB1 hs3 hs2 hs1 hbh htc rT0 rT hw6 hZ6
  rintro ⟨got, v, y⟩ W1 ⟨hB1, own, g8, h24⟩
  have own : W1.ownsRow w0.heap.size 5 1 v got.length (bvs got) := own
  have h24 : got.length ≤ 24 := h24
  have g8 : Bytes8 got := g8
  obtain ⟨Av, cv, rfl, hcv, hby, hnn⟩ := own_slice own
  refine coS <| qQ [] (Many.begin W1) fun wa hma => coI (decide ((got.length : Int) < 16)) (fun hlt => coSkip <| eoT <| coB <| coZ <| qR 5 [] hma fun wb hmb => ?_) fun hge => coX <| eoTx <| eoTx <| eoBx <| eoT ?_
  · have k := hmb.touch.below
    have hlt : got.length < 16 := by have : (got.length : Int) < 16 := by simpa using hlt
                                     omega
    refine qA (.tmp 61) (.tmp 65) w0 w0.heap.size wb.heap.size (.slice Av got.length cv) got.length got (some ⟨wa.heap.size, 0, none⟩) 1 [(got.length : Int) % 256] (hB1.trans (k.mono hB1.size)) (Nat.le_refl _) (Nat.le_trans hB1.size k.size) (own_below own k) (hmb.byte (t := 5) 0 (by kernel_rfl)) (fun e => by cases e) (by show got.length + 1 ≤ _; omega) fun v' w' own' hB' hs' => qF [] (Many.begin w') fun w'' hm'' => eoB <| eoRound (fun y => ⟨got ++ [(got.length : Int) % 256], v', y⟩) ?_ ?_
    · have k := hm''.touch.below
      refine ⟨hB'.trans (k.mono hB'.size), ?_, g8.append (byte_list ⟨by omega, by omega⟩), by show (got ++ [(got.length : Int) % 256]).length ≤ 24; simp; omega⟩
      show w''.ownsRow _ _ _ v' (got ++ [(got.length : Int) % 256]).length _
      rw [List.length_append]
      exact own_below own' k
    · show 30 - (got ++ [(got.length : Int) % 256]).length < 30 - got.length
      simp; omega
  have hgl : 16 ≤ got.length := by have : ¬ ((got.length : Int) < 16) := by simpa using hge
                                   omega
  have ka := hma.touch.below
  have hZa : Below Z.heap.size Z wa := (hZ0.trans (hB1.mono hZ0.size)).trans (ka.mono (Nat.le_trans hZ0.size hB1.size))
  have hwa := hbZ.trans (hZa.mono hbZ.size)
  have rR := rZ.below hZa rZ.lt
  have hya : BytesIn wa wa.heap.size Av got := (hby.below ka).more ka.size
  obtain ⟨d0, hcE⟩ : ∃ c', c' = cyOf (nextOf G got) := ⟨_, rfl⟩
  obtain ⟨s, hsE⟩ : ∃ s, s = rgOf (nextOf G got) := ⟨_, rfl⟩
  obtain ⟨d, hdE⟩ : ∃ d, d = doneOf (nextOf G got) := ⟨_, rfl⟩
  have K := next_hid G hGb Av cv got hcv g8 wa hya (ht.below hwa)
  have K' := rnext_hid G hGb Av cv got hcv g8 (by omega) wa hya
  rw [← hcE, ← hsE, ← hdE] at K K'
  refine coBoxR [(some 68, .val (regsV G)), (some 69, .val (.slice Av got.length cv)), (some 70, .call (.tuple #[cyV d0, regsV s, .bool d])), (some 67, .val (.tuple #[cyV d0, regsV s, .bool d])), (some 71, .val (cyV d0)), (some 72, .val (regsV s)), (some 73, .val (.bool d)), (some 11, .box 28 (cyC zeroCy) (some (9, cyC d0)) none), (some 12, .box 24 (regsC zeroRg) (some (10, regsC s)) none), (none, .put 7), (none, .put 8), (some 13, .val (.bool d))] ⟨fun p l a w I hd => heLoad rfl (by kernel_rfl) (ldR (rR.below I.below rR.lt).range), fun p l a w I hd => heMove (.inl rfl) (by kernel_rfl) w, fun p l a w I hd => ⟨_, _, (by kernel_rfl), K w I.below⟩, fun p l a w I hd => heMove (.inl rfl) (by kernel_rfl) w, fun p l a w I hd => heExtract (vs := #[cyV d0, regsV s, .bool d]) rfl (by kernel_rfl) (by kernel_rfl) w, fun p l a w I hd => heExtract (vs := #[cyV d0, regsV s, .bool d]) rfl (by kernel_rfl) (by kernel_rfl) w, fun p l a w I hd => heExtract (vs := #[cyV d0, regsV s, .bool d]) rfl (by kernel_rfl) (by kernel_rfl) w, ⟨fun k vs e => (by cases e; rfl), fun p l a w I hd => heAlloc rfl (allocCy w)⟩, ⟨fun k vs e => (by cases e; rfl), fun p l a w I hd => heAlloc rfl (allocRg w)⟩, fun p l a w I hd d t z s vs hj hr => (by cases hj; exact heStore rfl (by kernel_rfl) (by kernel_rfl) (stCy hr)), fun p l a w I hd d t z s vs hj hr => (by cases hj; exact heStore rfl (by kernel_rfl) (by kernel_rfl) (stRow hr)), fun p l a w I hd => heMove (.inr rfl) (by kernel_rfl) w, trivial⟩ fun p1 w17 h17 => ?_
  have rR := rR.below h17.1 rR.lt
  refine coBoxR [(some 75, .val (regsV G)), (some 76, .val (.slice Av got.length cv)), (some 77, .call (.tuple #[cyV d0, regsV s, .bool d])), (some 74, .val (.tuple #[cyV d0, regsV s, .bool d])), (some 78, .val (cyV d0)), (some 79, .val (regsV s)), (some 80, .val (.bool d)), (some 14, .box 28 (cyC zeroCy) (some (9, cyC d0)) none), (some 15, .box 24 (regsC zeroRg) (some (10, regsC s)) none), (none, .put 7), (none, .put 8), (some 16, .val (.bool d))] ⟨fun p l a w I hd => heLoad rfl (by kernel_rfl) (ldR (rR.below I.below rR.lt).range), fun p l a w I hd => heMove (.inl rfl) (by kernel_rfl) w, fun p l a w I hd => ⟨_, _, (by kernel_rfl), K' w (h17.1.trans (I.below.mono h17.1.size))⟩, fun p l a w I hd => heMove (.inl rfl) (by kernel_rfl) w, fun p l a w I hd => heExtract (vs := #[cyV d0, regsV s, .bool d]) rfl (by kernel_rfl) (by kernel_rfl) w, fun p l a w I hd => heExtract (vs := #[cyV d0, regsV s, .bool d]) rfl (by kernel_rfl) (by kernel_rfl) w, fun p l a w I hd => heExtract (vs := #[cyV d0, regsV s, .bool d]) rfl (by kernel_rfl) (by kernel_rfl) w, ⟨fun k vs e => (by cases e; rfl), fun p l a w I hd => heAlloc rfl (allocCy w)⟩, ⟨fun k vs e => (by cases e; rfl), fun p l a w I hd => heAlloc rfl (allocRg w)⟩, fun p l a w I hd d t z s vs hj hr => (by cases hj; exact heStore rfl (by kernel_rfl) (by kernel_rfl) (stCy hr)), fun p l a w I hd d t z s vs hj hr => (by cases hj; exact heStore rfl (by kernel_rfl) (by kernel_rfl) (stRow hr)), fun p l a w I hd => heMove (.inr rfl) (by kernel_rfl) w, trivial⟩ fun p2 w18 h18 => ?_
  have hm4 : Many wa [] [⟨p1 7, 28, (cyC d0).toList.map some⟩, ⟨p1 8, 24, (regsC s).toList.map some⟩, ⟨p2 7, 28, (cyC d0).toList.map some⟩, ⟨p2 8, 24, (regsC s).toList.map some⟩] _ :=
          ((((Many.begin wa).fresh h17.1 (h17.2.1 7 _ _ _ _ _ rfl).2 (h17.2.1 7 _ _ _ _ _ rfl).1).add (h17.2.1 8 _ _ _ _ _ rfl).2 (h17.2.1 8 _ _ _ _ _ rfl).1 (one_ne (h17.2.2 7 8 _ _ _ _ _ _ _ _ _ _ rfl rfl (by decide)))).fresh h18.1 (h18.2.1 7 _ _ _ _ _ rfl).2 (h18.2.1 7 _ _ _ _ _ rfl).1).add (h18.2.1 8 _ _ _ _ _ rfl).2 (Nat.le_trans h17.1.size (h18.2.1 8 _ _ _ _ _ rfl).1) (three_ne (Nat.ne_of_lt (Nat.lt_of_lt_of_le (h17.2.1 7 _ _ _ _ _ rfl).2.lt (h18.2.1 8 _ _ _ _ _ rfl).1)) (Nat.ne_of_lt (Nat.lt_of_lt_of_le (h17.2.1 8 _ _ _ _ _ rfl).2.lt (h18.2.1 8 _ _ _ _ _ rfl).1)) (h18.2.2 7 8 _ _ _ _ _ _ _ _ _ _ rfl rfl (by decide)))

  refine coS <| coR <| qR 2 [0, 2] hm4 fun w hm => kBj 83 (cyV d0) (cyV d0) (.bool false) (cy_guard _ _ _ _ _) (cy_neq d0) <| qR 3 [1, 3] hm fun w hm => kBj 87 (regsV s) (regsV s) (.bool false) (regs_guard _ _ _ _ _) (regs_neq _) <| qR 4 [] hm fun w hm => kBj 92 (.bool d) (.bool d) (.bool false) (egB _ _ _ _ _) (bNeB0 d) <| qE [] hm fun w19 hm19 => coF <| coSkip <| eoT <| ?_
  have k19 := hm19.touch.below
  have hZ19 := hZa.trans (k19.mono hZa.size)
  have hw19 := hbZ.trans (hZ19.mono hbZ.size)
  have rR := rZ.below hZ19 rZ.lt
  have hy19 : BytesIn w19 w19.heap.size Av got := (hya.below k19).more k19.size
  obtain ⟨c3, hcE3⟩ : ∃ c', c' = cyOf (nextOf G (got.take 3)) := ⟨_, rfl⟩
  obtain ⟨s3, hsE3⟩ : ∃ s, s = rgOf (nextOf G (got.take 3)) := ⟨_, rfl⟩
  obtain ⟨d3, hdE3⟩ : ∃ d, d = doneOf (nextOf G (got.take 3)) := ⟨_, rfl⟩
  have g83 : Bytes8 (got.take 3) := fun x hx => g8 x (List.mem_of_mem_take hx)
  have K3 := next_hid G hGb Av cv (got.take 3) (by rw [List.length_take]; omega) g83 w19 (hy19.take 3) (ht.below hw19)
  have K3' := rnext_hid G hGb Av cv (got.take 3) (by rw [List.length_take]; omega) g83 (by rw [List.length_take]; omega) w19 (hy19.take 3)
  rw [List.length_take, Nat.min_eq_left (by omega), ← hcE3, ← hsE3, ← hdE3] at K3 K3'
  clear hm19 hm4 K K'
  refine coBox [(some 95, .val (regsV G)), (some 96, .val (.slice Av got.length cv)), (some 97, .val (.slice Av 3 cv)), (some 98, .call (.tuple #[cyV c3, regsV s3, .bool d3])), (some 94, .val (.tuple #[cyV c3, regsV s3, .bool d3])), (some 99, .val (cyV c3)), (some 100, .val (regsV s3)), (some 101, .val (.bool d3)), (some 17, .box 28 (cyC zeroCy) (some (10, cyC c3)) none), (some 18, .box 24 (regsC zeroRg) (some (11, regsC s3)) none), (none, .put 8), (none, .put 9), (some 19, .val (.bool d3))] ⟨fun p l a w I hd => heLoad rfl (by kernel_rfl) (ldR (rR.below I.below rR.lt).range), fun p l a w I hd => heMove (.inl rfl) (by kernel_rfl) w, fun p l a w I hd => heSlice (V := .slice Av got.length cv) rfl (by kernel_rfl) (by kernel_rfl) (by kernel_rfl) (by kernel_rfl) (slTo _ _ _ 3 (by omega) w), fun p l a w I hd => ⟨_, _, (by kernel_rfl), K3 w I.below⟩, fun p l a w I hd => heMove (.inl rfl) (by kernel_rfl) w, fun p l a w I hd => heExtract (vs := #[cyV c3, regsV s3, .bool d3]) rfl (by kernel_rfl) (by kernel_rfl) w, fun p l a w I hd => heExtract (vs := #[cyV c3, regsV s3, .bool d3]) rfl (by kernel_rfl) (by kernel_rfl) w, fun p l a w I hd => heExtract (vs := #[cyV c3, regsV s3, .bool d3]) rfl (by kernel_rfl) (by kernel_rfl) w, ⟨fun k vs e => (by cases e; rfl), fun p l a w I hd => heAlloc rfl (allocCy w)⟩, ⟨fun k vs e => (by cases e; rfl), fun p l a w I hd => heAlloc rfl (allocRg w)⟩, fun p l a w I hd d t z s vs hj hr => (by cases hj; exact heStore rfl (by kernel_rfl) (by kernel_rfl) (stCy hr)), fun p l a w I hd d t z s vs hj hr => (by cases hj; exact heStore rfl (by kernel_rfl) (by kernel_rfl) (stRow hr)), fun p l a w I hd => heMove (.inr rfl) (by kernel_rfl) w, trivial⟩ fun p3 w21 h21 => ?_
  have rR := rR.below h21.1 rR.lt
  refine coBox [(some 103, .val (regsV G)), (some 104, .val (.slice Av got.length cv)), (some 105, .val (.slice Av 3 cv)), (some 106, .call (.tuple #[cyV c3, regsV s3, .bool d3])), (some 102, .val (.tuple #[cyV c3, regsV s3, .bool d3])), (some 107, .val (cyV c3)), (some 108, .val (regsV s3)), (some 109, .val (.bool d3)), (some 20, .box 28 (cyC zeroCy) (some (10, cyC c3)) none), (some 21, .box 24 (regsC zeroRg) (some (11, regsC s3)) none), (none, .put 8), (none, .put 9), (some 22, .val (.bool d3))] ⟨fun p l a w I hd => heLoad rfl (by kernel_rfl) (ldR (rR.below I.below rR.lt).range), fun p l a w I hd => heMove (.inl rfl) (by kernel_rfl) w, fun p l a w I hd => heSlice (V := .slice Av got.length cv) rfl (by kernel_rfl) (by kernel_rfl) (by kernel_rfl) (by kernel_rfl) (slTo _ _ _ 3 (by omega) w), fun p l a w I hd => ⟨_, _, (by kernel_rfl), K3' w (h21.1.trans (I.below.mono h21.1.size))⟩, fun p l a w I hd => heMove (.inl rfl) (by kernel_rfl) w, fun p l a w I hd => heExtract (vs := #[cyV c3, regsV s3, .bool d3]) rfl (by kernel_rfl) (by kernel_rfl) w, fun p l a w I hd => heExtract (vs := #[cyV c3, regsV s3, .bool d3]) rfl (by kernel_rfl) (by kernel_rfl) w, fun p l a w I hd => heExtract (vs := #[cyV c3, regsV s3, .bool d3]) rfl (by kernel_rfl) (by kernel_rfl) w, ⟨fun k vs e => (by cases e; rfl), fun p l a w I hd => heAlloc rfl (allocCy w)⟩, ⟨fun k vs e => (by cases e; rfl), fun p l a w I hd => heAlloc rfl (allocRg w)⟩, fun p l a w I hd d t z s vs hj hr => (by cases hj; exact heStore rfl (by kernel_rfl) (by kernel_rfl) (stCy hr)), fun p l a w I hd d t z s vs hj hr => (by cases hj; exact heStore rfl (by kernel_rfl) (by kernel_rfl) (stRow hr)), fun p l a w I hd => heMove (.inr rfl) (by kernel_rfl) w, trivial⟩ fun p4 w22 h22 => ?_
  have hm4 : Many w19 [] [⟨p3 8, 28, (cyC c3).toList.map some⟩, ⟨p3 9, 24, (regsC s3).toList.map some⟩, ⟨p4 8, 28, (cyC c3).toList.map some⟩, ⟨p4 9, 24, (regsC s3).toList.map some⟩] _ :=
          ((((Many.begin w19).fresh h21.1 (h21.2.1 8 _ _ _ _ _ rfl).2 (h21.2.1 8 _ _ _ _ _ rfl).1).add (h21.2.1 9 _ _ _ _ _ rfl).2 (h21.2.1 9 _ _ _ _ _ rfl).1 (one_ne (h21.2.2 8 9 _ _ _ _ _ _ _ _ _ _ rfl rfl (by decide)))).fresh h22.1 (h22.2.1 8 _ _ _ _ _ rfl).2 (h22.2.1 8 _ _ _ _ _ rfl).1).add (h22.2.1 9 _ _ _ _ _ rfl).2 (Nat.le_trans h21.1.size (h22.2.1 9 _ _ _ _ _ rfl).1) (three_ne (Nat.ne_of_lt (Nat.lt_of_lt_of_le (h21.2.1 8 _ _ _ _ _ rfl).2.lt (h22.2.1 9 _ _ _ _ _ rfl).1)) (Nat.ne_of_lt (Nat.lt_of_lt_of_le (h21.2.1 9 _ _ _ _ _ rfl).2.lt (h22.2.1 9 _ _ _ _ _ rfl).1)) (h22.2.2 8 9 _ _ _ _ _ _ _ _ _ _ rfl rfl (by decide)))

  refine coR <| qR 2 [0, 2] hm4 fun w hm => kBj 112 (cyV c3) (cyV c3) (.bool false) (cy_guard _ _ _ _ _) (cy_neq c3) <| qE [] hm fun w hm => coF <| coSkip <| eoB <| eoT <| coZ <| qR 1 [] hm fun w hm => kBj 41 (.int .i64 (c : Int)) (.int .i64 1) (.int .i64 ((c : Int) + 1)) (egI _ _ _ _ _) (bAddI' _ _ (by omega) (by omega)) <| qF [] hm fun w hm => eoRound (fun y => ⟨c + 1, y⟩) ⟨hZ19.trans (hm.touch.below.mono hZ19.size), by show c + 1 ≤ 256; omega⟩ (by show 257 - (c + 1) < 257 - c; omega)
end Go.Proofs.YtibmpaeaicpbcaaGreatDoor
