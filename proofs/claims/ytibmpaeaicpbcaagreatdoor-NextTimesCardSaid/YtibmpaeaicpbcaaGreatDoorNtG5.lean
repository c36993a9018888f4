/- Contracts and facts that the claim's proof wants (several texts in one). -/
import Derived.Laws.StructEq
import Derived.BigQuiet
import Derived.Deep.DeepCutAuto
import Derived.Deep.QuietTactic
import Derived.Maps.AppendAt
import Derived.Laws.OwnMore
import Derived.Laws.AppendOwn
import Derived.Laws.AppendOwnNone
import Derived.OwnWalk
import Derived.Deep.RegionHeld3
import Derived.WalkKit
import Derived.ProofKit
import Derived.OpenShut
import Derived.ChangeSlices
import Derived.Lib.SmallJoins
import Derived.ChangeArms
import Derived.Deep.Fields
import Derived.LaidLaws
import Derived.FnData
import Derived.Outline
import Derived.Test.YtibmpaeaicpbcaaGreatDoorNtG1
import Derived.Test.YtibmpaeaicpbcaaGreatDoorNtG2
import Derived.Test.YtibmpaeaicpbcaaGreatDoorNtG3
import Derived.Test.YtibmpaeaicpbcaaGreatDoorNtG4
namespace Go.Proofs.YtibmpaeaicpbcaaGreatDoor
open Go.RowKit
set_option linter.unusedVariables false
set_option linter.unusedSimpArgs false
inductive Pl where
  | val (v : Value)
  | call (v : Value)
  | box (t : TypeId) (z : Array Value) (st : Option (Nat × Array Value)) (sl : Option Nat)
  | put (j : Nat)
def Pl.value (x : Pl) (p : Nat → Nat) (k : Nat) : Value := match x with
  | .val v => v
  | .call v => v
  | .box _ _ _ none => .pointer (some ⟨p k, 0, none⟩)
  | .box _ _ _ (some n) => .slice (some ⟨p k, 0, none⟩) n n
  | .put _ => undef
def nowC (listed : Array Bool) (z : Array Value) : Option (Nat × Array Value) → Array Value
  | none => z
  | some (s, vs) => if listed.getD s false = true then vs else z
def endC (z : Array Value) : Option (Nat × Array Value) → Array Value
  | none => z
  | some (_, vs) => vs
abbrev Plan := List (Option Tmp × Pl)
def layL (p : Nat → Nat) : Plan → Nat → Array Value → Array Value
  | [], _, t => t
  | (some d, x) :: r, k, t => layL p r (k + 1) (t.setIfInBounds d (x.value p k))
  | (none, _) :: r, k, t => layL p r (k + 1) t
def distinctB : List (Option Tmp) → Bool
  | [] => true
  | none :: l => distinctB l
  | some d :: l => !l.contains (some d) && distinctB l
theorem distinct_ne {d : Tmp} : ∀ {D : List (Option Tmp)} {k : Nat}, D.contains (some d) = false → D[k]? = some (some d) → False
  | [], _, _, h => by simp at h
  | e :: D, 0, h, hk => by
    simp at hk
    subst hk
    simp at h
  | e :: D, k + 1, h, hk => by
    simp only [List.contains_cons, Bool.or_eq_false_iff] at h
    exact distinct_ne (D := D) (k := k) h.2 (by simpa using hk)
theorem distinct_eq {d : Tmp} : ∀ {D : List (Option Tmp)} {k l : Nat}, distinctB D = true → D[k]? = some (some d) → D[l]? = some (some d) → k = l
  | [], _, _, _, h, _ => by simp at h
  | e :: D, 0, 0, _, _, _ => rfl
  | e :: D, 0, l + 1, h, hk, hl => by
    simp at hk
    subst hk
    simp only [distinctB, Bool.and_eq_true, Bool.not_eq_true'] at h
    exact (distinct_ne h.1 (by simpa using hl)).elim
  | e :: D, k + 1, 0, h, hk, hl => by
    simp at hl
    subst hl
    simp only [distinctB, Bool.and_eq_true, Bool.not_eq_true'] at h
    exact (distinct_ne h.1 (by simpa using hk)).elim
  | e :: D, k + 1, l + 1, h, hk, hl => by
    have h' : distinctB D = true := by
      cases e with
      | none => exact h
      | some e => simp only [distinctB, Bool.and_eq_true] at h; exact h.2
    exact congrArg (· + 1) (distinct_eq (D := D) (k := k) (l := l) h' (by simpa using hk) (by simpa using hl))
theorem layL_rest (p : Nat → Nat) (s : Nat) : ∀ (L : Plan) (k : Nat) (t : Array Value), (∀ (j : Nat) (x : Pl), L[j]? ≠ some (some s, x)) → (layL p L k t)[s]? = t[s]?
  | [], _, _, _ => rfl
  | (some d, x) :: r, k, t, h => by
    rw [layL, layL_rest p s r _ _ fun j y => by simpa using h (j + 1) y]
    have hd : d ≠ s := fun e => h 0 x (by simp [e])
    exact Array.getElem?_setIfInBounds_ne hd
  | (none, _) :: r, k, t, h => by rw [layL, layL_rest p s r _ _ fun j y => by simpa using h (j + 1) y]
theorem layL_slot (p : Nat → Nat) (s : Tmp) (x : Pl) : ∀ (L : Plan) (k : Nat) (t : Array Value) (j : Nat), distinctB (L.map (·.1)) = true → L[j]? = some (some s, x) → s < t.size → (layL p L k t)[s]? = some (x.value p (k + j))
  | [], _, _, j, _, h, _ => by simp at h
  | (some d, y) :: r, k, t, 0, hD, h, hs => by
    simp at h
    obtain ⟨rfl, rfl⟩ := h
    simp only [List.map_cons, distinctB, Bool.and_eq_true, Bool.not_eq_true'] at hD
    rw [layL, layL_rest p d r _ _ fun j z e => distinct_ne (D := r.map (·.1)) (k := j) hD.1 (by rw [List.getElem?_map, e]; rfl)]
    simp [hs]
  | (some d, y) :: r, k, t, j + 1, hD, h, hs => by
    simp only [List.map_cons, distinctB, Bool.and_eq_true, Bool.not_eq_true'] at hD
    rw [layL, layL_slot p s x r (k + 1) _ j hD.2 (by simpa using h) (by simpa using hs), show k + 1 + j = k + (j + 1) by omega]
  | (none, y) :: r, k, t, 0, hD, h, hs => by simp at h
  | (none, y) :: r, k, t, j + 1, hD, h, hs => by
    rw [layL, layL_slot p s x r (k + 1) _ j hD (by simpa using h) hs, show k + 1 + j = k + (j + 1) by omega]
section
variable {P : Program} {ops : Array Oper} {Q : Exit → Act → World → Prop}
structure BoxI (L : Plan) (a0 : Act) (w0 : World) (p : Nat → Nat) (listed : Array Bool) (a : Act) (w : World) : Prop where
  size : listed.size = L.length
  df : a.defers = a0.defers
  len : a.tmps.size = a0.tmps.size
  slot : ∀ (k : Nat) (d : Tmp) (x : Pl), L[k]? = some (some d, x) → listed.getD k false = true → a.tmps[d]? = some (x.value p k)
  rest : ∀ (s : Nat), (∀ (k : Nat) (x : Pl), L[k]? ≠ some (some s, x)) → a.tmps[s]? = a0.tmps[s]?
  below : Below w0.heap.size w0 w
  boxed : ∀ (k : Nat) (d : Option Tmp) (t : TypeId) (z : Array Value) (s : Option (Nat × Array Value)) (vs : Option Nat), L[k]? = some (d, .box t z s vs) → listed.getD k false = true → w0.heap.size ≤ p k ∧ Row w (p k) t (nowC listed z s)
  apart : ∀ (k l : Nat) (d : Option Tmp) (t : TypeId) (z : Array Value) (s : Option (Nat × Array Value)) (vs : Option Nat) (d' : Option Tmp) (t' : TypeId) (z' : Array Value) (s' : Option (Nat × Array Value)) (vs' : Option Nat), L[k]? = some (d, .box t z s vs) → L[l]? = some (d', .box t' z' s' vs') → listed.getD k false = true → listed.getD l false = true → k ≠ l → p k ≠ p l
def needB (ops : Array Oper) (k j : Nat) : Bool := match ops[k]? with
  | some o => o.after.toList.any fun e => Region.binds .any e && e.on == j
  | none => false
def boxB (L : Plan) : Bool := (List.range L.length).all fun k => match L[k]? with
  | some (d, .box _ _ (some (s, _)) _) => d.isSome && (match L[s]? with
    | some (none, .put j) => j == k
    | _ => false)
  | some (d, .put j) => d.isNone && (match L[j]? with
    | some (_, .box _ _ (some (s, _)) _) => s == k && needB ops k j
    | _ => false)
  | _ => true
def usesB (ops : Array Oper) (L : Plan) : Bool := (List.range ops.size).all fun k => match ops[k]? with
  | some o => o.op.operands.toList.all fun
    | .tmp s => !(L.map (·.1)).contains (some s) || (List.range L.length).any fun j => (L[j]?).map (·.1) == some (some s) && needB ops k j
    | _ => true
  | none => true
def planB (ops : Array Oper) (L : Plan) (N : Nat) : Bool :=
  (ops.toList.map (·.dst) == L.map (·.1)) && (ops.toList.all (fun o => o.guard.isNone) && (distinctB (L.map (·.1)) && (L.all (fun x => match x.1 with | some d => decide (d < N) | none => true) &&
    ((List.range ops.size).all (fun k => match ops[k]? with | some o => o.after.all (fun e => !Region.binds .any e || decide (e.on < k)) | none => true) && (boxB (ops := ops) L && (Region.noSelect ops && usesB ops L))))))
def litA (L : Plan) (a0 : Act) (p : Nat → Nat) : Act := { a0 with tmps := layL p L 0 a0.tmps }
def Ob (P : Program) (ops : Array Oper) (L : Plan) (a0 : Act) (w0 : World) (k : Nat) (o : Oper) : Pl → Prop
  | .val v => ∀ p listed a w, BoxI L a0 w0 p listed a w → (∀ j, needB ops k j = true → listed.getD j false = true) → (execOp (litA L a0 p).eval o).run P w = .ok (.value v) w
  | .call v => ∀ p listed a w, BoxI L a0 w0 p listed a w → (∀ j, needB ops k j = true → listed.getD j false = true) → ∃ f args, (execOp (litA L a0 p).eval o).run P w = .ok (.enter f args) w ∧ Calls P f args w fun e w' => e = .returned v ∧ Below w.heap.size w w'
  | .box t z s n => (∀ k vs, s = some (k, vs) → z.size = vs.size) ∧ ∀ p listed a w, BoxI L a0 w0 p listed a w → (∀ j, needB ops k j = true → listed.getD j false = true) → (execOp (litA L a0 p).eval o).run P w = .ok (.value ((Pl.box t z s n).value (fun _ => w.heap.size) k)) (w.alloc (.cells z t))
  | .put j => ∀ p listed a w, BoxI L a0 w0 p listed a w → (∀ j, needB ops k j = true → listed.getD j false = true) → ∀ (d : Option Tmp) (t : TypeId) (z : Array Value) (s : Option (Nat × Array Value)) (vs : Option Nat), L[j]? = some (d, .box t z s vs) → Row w (p j) t z → (execOp (litA L a0 p).eval o).run P w = .ok .skip (w.setCells (p j) 0 (endC z s).toList)
theorem wanted0 {o : Oper} {f : Nat → Option Bool} (hg : o.guard = none) : Region.wanted o f = true := by simp only [Region.wanted, hg]
theorem getD_at {α : Type} {xs : Array α} {k : Nat} {d v : α} (h : xs[k]? = some v) : xs.getD k d = v := by
  rw [Array.getD_eq_getD_getElem?, h]; rfl
theorem BoxI.tmp {L : Plan} {a0 : Act} {w0 : World} {p : Nat → Nat} {listed : Array Bool} {a : Act} {w : World} (h : BoxI L a0 w0 p listed a w) {k : Nat} (hd : ∀ j, needB ops k j = true → listed.getD j false = true) (j : Nat) (hn : needB ops k j = true) {d : Tmp} {x : Pl} (hL : L[j]? = some (some d, x)) :
    a.eval (.tmp d) = x.value p j := getD_at (h.slot j d x hL (hd j hn))
theorem BoxI.old {L : Plan} {a0 : Act} {w0 : World} {p : Nat → Nat} {listed : Array Bool} {a : Act} {w : World} (h : BoxI L a0 w0 p listed a w) (s : Tmp) {v : Value} (hv : a0.tmps[s]? = some v) (hn : ((L.map (·.1)).contains (some s)) = false) : a.eval (.tmp s) = v :=
  getD_at ((h.rest s fun k x e => distinct_ne (D := L.map (·.1)) (k := k) hn (by rw [List.getElem?_map, e]; rfl)).trans hv)
theorem getD_set_eq {listed : Array Bool} {i : Nat} (hi : i < listed.size) : (listed.setIfInBounds i true).getD i false = true := getD_at (by simp [hi])
theorem getD_tf {listed : Array Bool} {i : Nat} (h : listed.getD i true = false) : listed.getD i false = false := by
  rw [Array.getD_eq_getD_getElem?] at h ⊢
  cases hx : listed[i]? with
  | none => rfl
  | some b => rw [hx] at h; exact h
theorem getD_ft {listed : Array Bool} {i : Nat} (hi : i < listed.size) (h : listed.getD i true = true) : listed.getD i false = true := by
  rw [Array.getD_eq_getD_getElem?] at h ⊢
  rw [Array.getElem?_eq_getElem hi] at h ⊢
  exact h
theorem BoxI.step {L : Plan} {a0 : Act} {w0 : World} {p q : Nat → Nat} {listed : Array Bool} {a : Act} {w w' : World} (h : BoxI L a0 w0 p listed a w) {i : Nat} {dst : Option Tmp} {x : Pl} (hL : L[i]? = some (dst, x)) (hD : distinctB (L.map (·.1)) = true) (hfit : ∀ d, dst = some d → d < a0.tmps.size)
    (hu : listed.getD i true = false) (hq : ∀ k, k ≠ i → q k = p k) (hpos : ∀ k, x.value p k = x.value p k) (hb : Below w0.heap.size w0 w')
    (hbox : ∀ (k : Nat) (d : Option Tmp) (t : TypeId) (z : Array Value) (s : Option (Nat × Array Value)) (vs : Option Nat), L[k]? = some (d, .box t z s vs) → (listed.setIfInBounds i true).getD k false = true → w0.heap.size ≤ q k ∧ Row w' (q k) t (nowC (listed.setIfInBounds i true) z s))
    (hap : ∀ (k l : Nat) (d : Option Tmp) (t : TypeId) (z : Array Value) (s : Option (Nat × Array Value)) (vs : Option Nat) (d' : Option Tmp) (t' : TypeId) (z' : Array Value) (s' : Option (Nat × Array Value)) (vs' : Option Nat), L[k]? = some (d, .box t z s vs) → L[l]? = some (d', .box t' z' s' vs') → (listed.setIfInBounds i true).getD k false = true → (listed.setIfInBounds i true).getD l false = true → k ≠ l → q k ≠ q l) :
    BoxI L a0 w0 q (listed.setIfInBounds i true) (a.put dst (x.value q i)) w' := by
  have hv : ∀ k y, k ≠ i → Pl.value y q k = Pl.value y p k := fun k y hk => by
    cases y <;> simp only [Pl.value, hq k hk]
  have hun : ∀ k, k ≠ i → (listed.setIfInBounds i true).getD k false = listed.getD k false := fun k hk => getD_set_ne false (Ne.symm hk)
  refine ⟨by rw [Array.size_setIfInBounds]; exact h.size, ?_, ?_, ?_, ?_, hb, hbox, hap⟩
  · cases dst <;> exact h.df
  · cases dst with
    | none => exact h.len
    | some d => simp only [Act.put, Array.size_setIfInBounds]; exact h.len
  · intro k d y hk hl
    by_cases hki : k = i
    · subst hki
      rw [hL] at hk
      injection hk with hk; injection hk with e1 e2
      subst e1; subst e2
      simp only [Act.put]
      rw [Array.getElem?_setIfInBounds, if_pos rfl, if_pos (by rw [h.len]; exact hfit d rfl)]
    · rw [hun k hki] at hl
      have h0 := h.slot k d y hk hl
      rw [hv k y hki]
      cases dst with
      | none => exact h0
      | some d' =>
        have hne : d' ≠ d := fun e => hki (distinct_eq (D := L.map (·.1)) (d := d) hD (by rw [List.getElem?_map, hk]; rfl) (by rw [List.getElem?_map, hL, e]; rfl))
        simp only [Act.put]
        rw [Array.getElem?_setIfInBounds_ne hne]
        exact h0
  · intro s hs
    have h0 := h.rest s hs
    cases dst with
    | none => exact h0
    | some d' =>
      have hne : d' ≠ s := fun e => hs i x (by rw [hL, e])
      simp only [Act.put]
      rw [Array.getElem?_setIfInBounds_ne hne]
      exact h0
structure PlanOk (ops : Array Oper) (L : Plan) (N : Nat) : Prop where
  len : L.length = ops.size
  get : ∀ (k : Nat) (o : Oper), ops[k]? = some o → ∃ x, L[k]? = some (o.dst, x)
  fit : ∀ (k : Nat) (d : Tmp) (x : Pl), L[k]? = some (some d, x) → d < N
  guard : ∀ (k : Nat) (o : Oper), ops[k]? = some o → o.guard = none
  dist : distinctB (L.map (·.1)) = true
  store : ∀ (k : Nat) (d : Option Tmp) (t : TypeId) (z : Array Value) (s : Nat) (vs : Array Value) (n : Option Nat), L[k]? = some (d, .box t z (some (s, vs)) n) → L[s]? = some (none, .put k)
  put : ∀ (k : Nat) (d : Option Tmp) (j : Nat), L[k]? = some (d, .put j) → d = none ∧ needB ops k j = true ∧ ∃ d' t z vs n, L[j]? = some (d', .box t z (some (k, vs)) n)
  ord : ∀ (k : Nat) (hk : k < ops.size), ∀ e ∈ ops[k].after, Region.binds .any e = true → e.on < k
  sel : ∀ (k : Nat) (o : Oper) cs b, ops[k]? = some o → o.op ≠ .select cs b
  uses : ∀ (k : Nat) (o : Oper) (s : Tmp), ops[k]? = some o → Operand.tmp s ∈ o.op.operands → (L.map (·.1)).contains (some s) = false ∨ ∃ j x, L[j]? = some (some s, x) ∧ needB ops k j = true
theorem planOk {L : Plan} {N : Nat} (hB : planB ops L N = true) : PlanOk ops L N := by
  simp only [planB, Bool.and_eq_true] at hB
  obtain ⟨hdst, hgd, hD, hfit0, hord, hbox, hsel, huses⟩ := hB
  have hdst' : ops.toList.map (·.dst) = L.map (·.1) := by simpa using hdst
  have hlen : L.length = ops.size := by
    have := congrArg List.length hdst'
    simpa using this.symm
  have hlt : ∀ (k : Nat) (x : Option Tmp × Pl), L[k]? = some x → k < L.length := fun k x h => (List.getElem?_eq_some_iff.1 h).1
  refine ⟨hlen, fun k o hk => ?_, fun k d x hk => ?_, fun k o hk => ?_, hD, fun k d t z s vs n hk => ?_, fun k d j hk => ?_, fun k hk e he hb => ?_, Region.noSelect_spec hsel, fun k o s ho hs => ?_⟩
  · have e : (ops.toList.map (·.dst))[k]? = some o.dst := by rw [List.getElem?_map]; simp [hk]
    rw [hdst', List.getElem?_map] at e
    cases hx : L[k]? with
    | none => rw [hx] at e; cases e
    | some y =>
      rw [hx] at e
      injection e with e
      exact ⟨y.2, by rw [← e]⟩
  · have := List.all_eq_true.1 hfit0 _ (List.mem_of_getElem? hk)
    simpa using this
  · have := List.all_eq_true.1 hgd o (by simpa using Array.mem_of_getElem? hk)
    simpa using this
  · have h := List.all_eq_true.1 hbox k (List.mem_range.2 (hlt k _ hk))
    rw [hk] at h
    simp only [Bool.and_eq_true] at h
    rcases hs : L[s]? with _ | ⟨_ | d', y⟩
    · rw [hs] at h; cases h.2
    · rw [hs] at h
      cases y with
      | put j => have := h.2; simp at this; rw [this]
      | val v => cases h.2
      | call v => cases h.2
      | box _ _ _ _ => cases h.2
    · rw [hs] at h; cases y <;> cases h.2
  · have h := List.all_eq_true.1 hbox k (List.mem_range.2 (hlt k _ hk))
    rw [hk] at h
    simp only [Bool.and_eq_true] at h
    refine ⟨by simpa using h.1, ?_⟩
    rcases hs : L[j]? with _ | ⟨d', y⟩
    · rw [hs] at h; cases h.2
    · rw [hs] at h
      cases y with
      | box t z s n =>
        cases s with
        | none => cases h.2
        | some sv =>
          have := h.2
          simp only [Bool.and_eq_true, beq_iff_eq] at this
          obtain ⟨h1, h2⟩ := this
          subst h1
          exact ⟨h2, _, _, _, _, _, rfl⟩
      | val v => cases h.2
      | call v => cases h.2
      | put _ => cases h.2
  · have h1 := List.all_eq_true.1 hord k (List.mem_range.2 hk)
    rw [Array.getElem?_eq_getElem hk] at h1
    have h2 := Array.all_eq_true_iff_forall_mem.1 h1 e he
    simpa only [hb, Bool.not_true, Bool.false_or, decide_eq_true_eq] using h2
  · have h1 := List.all_eq_true.1 huses k (List.mem_range.2 (Array.getElem?_eq_some_iff.1 ho).1)
    rw [ho] at h1
    have h2 := List.all_eq_true.1 h1 (.tmp s) (by simpa using hs)
    simp only [Bool.or_eq_true, Bool.not_eq_true'] at h2
    rcases h2 with h2 | h2
    · exact .inl h2
    · obtain ⟨j, -, h3⟩ := List.any_eq_true.1 h2
      simp only [Bool.and_eq_true, beq_iff_eq] at h3
      obtain ⟨h3, h4⟩ := h3
      cases hj : L[j]? with
      | none => rw [hj] at h3; cases h3
      | some y =>
        rw [hj] at h3
        simp only [Option.map_some, Option.some.injEq] at h3
        exact .inr ⟨j, y.2, by rw [hj, ← h3], h4⟩
theorem same_eval {L : Plan} {a0 : Act} {w0 : World} (H : PlanOk ops L a0.tmps.size) {p : Nat → Nat} {listed : Array Bool} {a : Act} {w : World} (I : BoxI L a0 w0 p listed a w) {k : Nat} {o : Oper} (ho : ops[k]? = some o) (hneed : ∀ j, needB ops k j = true → listed.getD j false = true) :
    execOp a.eval o = execOp (litA L a0 p).eval o := by
  refine execOp_congr o (fun cs b => H.sel k o cs b ho) fun x hx => ?_
  cases x with
  | tmp s =>
    show a.tmps.getD s undef = (layL p L 0 a0.tmps).getD s undef
    rw [Array.getD_eq_getD_getElem?, Array.getD_eq_getD_getElem?]
    rcases H.uses k o s ho hx with h | ⟨j, x, hj, hn⟩
    · have hs : ∀ (k : Nat) (x : Pl), L[k]? ≠ some (some s, x) := fun k x e => distinct_ne (D := L.map (·.1)) (k := k) h (by rw [List.getElem?_map, e]; rfl)
      rw [I.rest s hs, layL_rest p s L 0 a0.tmps hs]
    · rw [I.slot j s x hj (hneed j hn), layL_slot p s x L 0 a0.tmps j H.dist hj (H.fit j s x hj), Nat.zero_add]
  | _ => rfl
theorem now_same {listed : Array Bool} {i : Nat} {z : Array Value} {s : Option (Nat × Array Value)} (h : ∀ s' vs, s = some (s', vs) → s' ≠ i) : nowC (listed.setIfInBounds i true) z s = nowC listed z s := by
  rcases s with _ | ⟨s, vs⟩
  · rfl
  · simp only [nowC, getD_set_ne false (Ne.symm (h s vs rfl))]
theorem boxed_step {L : Plan} {a0 : Act} {w0 : World} (H : PlanOk ops L a0.tmps.size) (hob : ∀ (k : Nat) (o : Oper) (x : Pl), ops[k]? = some o → L[k]? = some (o.dst, x) → Ob P ops L a0 w0 k o x)
    {p : Nat → Nat} {listed : Array Bool} {a : Act} {w : World} (I : BoxI L a0 w0 p listed a w) (hO0 : ∀ k j, needB ops k j = true → listed.getD k false = true → listed.getD j false = true)
    {i : Nat} (his : i < ops.size) (hu : listed.getD i true = false) (hneed : ∀ j, needB ops i j = true → listed.getD j false = true) {K : Act → World → Prop}
    (hK : ∀ p' a' w', BoxI L a0 w0 p' (listed.setIfInBounds i true) a' w' → K a' w') : wpOp P ops Q i K a w := by
  have H0 := H
  obtain ⟨hlen, hget, hfit, hguard, hD, hstore, hput, hord, -, -⟩ := H
  have hlt : ∀ (k : Nat) (x : Option Tmp × Pl), L[k]? = some x → k < L.length := fun k x h => (List.getElem?_eq_some_iff.1 h).1
  obtain ⟨o, ho⟩ : ∃ o, ops[i]? = some o := ⟨_, Array.getElem?_eq_getElem his⟩
  have hil : i < listed.size := by rw [I.size, hlen]; exact his
  obtain ⟨x, hx⟩ := hget i o ho
  have hO := hob i o x ho hx
  have hev := same_eval H0 I ho hneed
  have hgo := hguard i o ho
  have huf := getD_tf hu
  unfold wpOp
  simp only [ho, wanted0 hgo, if_true]
  refine .inl ?_
  unfold Oper.wp
  rw [hev]
  have old : ∀ k, k ≠ i → (listed.setIfInBounds i true).getD k false = listed.getD k false := fun k hk => getD_set_ne false (Ne.symm hk)
  -- no store is operation i, unless it is one
  have nost : (∀ j, x ≠ .put j) → ∀ (k : Nat) (d : Option Tmp) (t : TypeId) (z : Array Value) (s : Option (Nat × Array Value)) (n : Option Nat), L[k]? = some (d, .box t z s n) → nowC (listed.setIfInBounds i true) z s = nowC listed z s := fun hnx k d t z s n hk =>
    now_same fun s' vs e hs => by
      subst e; subst hs
      have := hstore k d t z s' vs n hk
      rw [hx] at this
      injection this with this
      exact hnx k (congrArg (·.2) this)
  have same : (∀ t z s n, x ≠ .box t z s n) → ∀ (k : Nat) (d : Option Tmp) (t : TypeId) (z : Array Value) (s : Option (Nat × Array Value)) (n : Option Nat), L[k]? = some (d, .box t z s n) → k ≠ i := fun hnx k d t z s n hk e => by
    subst e
    rw [hx] at hk
    injection hk with hk
    exact hnx t z s n (congrArg (·.2) hk)
  have aprt : (∀ t z s n, x ≠ .box t z s n) → ∀ (k l : Nat) (d : Option Tmp) (t : TypeId) (z : Array Value) (s : Option (Nat × Array Value)) (vs : Option Nat) (d' : Option Tmp) (t' : TypeId) (z' : Array Value) (s' : Option (Nat × Array Value)) (vs' : Option Nat), L[k]? = some (d, .box t z s vs) → L[l]? = some (d', .box t' z' s' vs') → (listed.setIfInBounds i true).getD k false = true → (listed.setIfInBounds i true).getD l false = true → k ≠ l → p k ≠ p l :=
    fun hnx k l d t z s vs d' t' z' s' vs' hk hl h1 h2 hne => by
      rw [old k (same hnx k d t z s vs hk)] at h1
      rw [old l (same hnx l d' t' z' s' vs' hl)] at h2
      exact I.apart k l d t z s vs d' t' z' s' vs' hk hl h1 h2 hne
  cases x with
  | val v =>
    rw [hO p listed a w I hneed, Oper.upon_value]
    refine hK p _ _ (I.step (q := p) hx hD (fun d e => hfit i d (.val v) (by rw [hx, e])) hu (fun _ _ => rfl) (fun _ => rfl) I.below ?_ (aprt (by intros; simp)))
    intro k d t z s vs hk hl
    rw [old k (same (by intros; simp) k d t z s vs hk)] at hl
    rw [nost (by intros; simp) k d t z s vs hk]
    exact I.boxed k d t z s vs hk hl
  | call v =>
    obtain ⟨f, args, he, hC⟩ := hO p listed a w I hneed
    rw [he, Oper.upon_enter]
    refine hC.mono ?_
    rintro e w' ⟨rfl, hb⟩
    refine hK p _ _ (I.step (q := p) hx hD (fun d e => hfit i d (.call v) (by rw [hx, e])) hu (fun _ _ => rfl) (fun _ => rfl) (I.below.trans (hb.mono I.below.size)) ?_ (aprt (by intros; simp)))
    intro k d t z s vs hk hl
    rw [old k (same (by intros; simp) k d t z s vs hk)] at hl
    rw [nost (by intros; simp) k d t z s vs hk]
    have h0 := I.boxed k d t z s vs hk hl
    exact ⟨h0.1, h0.2.below hb h0.2.lt⟩
  | box t0 z0 s0 n0 =>
    obtain ⟨hz, he⟩ := hO
    rw [he p listed a w I hneed, Oper.upon_value]
    have hqk : ∀ k, k ≠ i → (fun k => if k = i then w.heap.size else p k) k = p k := fun k hk => if_neg hk
    have hsz := I.below.size
    have st := I.step (q := fun k => if k = i then w.heap.size else p k) (w' := w.alloc (.cells z0 t0)) hx hD (fun d e => hfit i d (.box t0 z0 s0 n0) (by rw [hx, e])) hu hqk (fun _ => rfl) (I.below.alloc hsz _) ?_ ?_
    · have ev : (Pl.box t0 z0 s0 n0).value (fun k => if k = i then w.heap.size else p k) i = (Pl.box t0 z0 s0 n0).value (fun _ => w.heap.size) i := by
        cases n0 <;> simp only [Pl.value, if_pos]
      rw [ev] at st
      exact hK _ _ _ st
    · intro k d t z s vs hk hl
      rw [nost (by intros; simp) k d t z s vs hk]
      show w0.heap.size ≤ (if k = i then w.heap.size else p k) ∧ Row _ (if k = i then w.heap.size else p k) _ _
      by_cases hki : k = i
      · subst hki
        rw [hx] at hk
        injection hk with hk; injection hk with e1 e2; injection e2 with e3 e4 e5 e6
        subst e3; subst e4; subst e5; subst e6
        have e2 : nowC listed z0 s0 = z0 := by
          rcases s0 with _ | ⟨s0, vs0⟩
          · rfl
          · cases hc2 : listed.getD s0 false with
            | false => simp only [nowC, hc2]; rfl
            | true =>
              have hp := hput s0 none k (hstore k _ _ _ _ _ _ hx)
              exact absurd (huf.symm.trans (hO0 s0 k hp.2.1 hc2)) (by simp)
        rw [e2, if_pos rfl]
        exact ⟨hsz, Row.new w t0 z0⟩
      · rw [old k hki] at hl
        have h0 := I.boxed k d t z s vs hk hl
        rw [if_neg hki]
        exact ⟨h0.1, h0.2.alloc _⟩
    · intro k l d t z s vs d' t' z' s' vs' hk hl h1 h2 hne
      show (if k = i then w.heap.size else p k) ≠ (if l = i then w.heap.size else p l)
      by_cases hki : k = i
      · have hli : l ≠ i := fun e => hne (hki.trans e.symm)
        rw [if_pos hki, if_neg hli]
        rw [old l hli] at h2
        have := (I.boxed l d' t' z' s' vs' hl h2).2.lt
        omega
      · rw [if_neg hki]
        rw [old k hki] at h1
        have := (I.boxed k d t z s vs hk h1).2.lt
        by_cases hli : l = i
        · rw [if_pos hli]; omega
        · rw [if_neg hli]
          rw [old l hli] at h2
          exact I.apart k l d t z s vs d' t' z' s' vs' hk hl h1 h2 hne
  | put j =>
    obtain ⟨hnd, hn, d1, t1, z1, vs1, n1, hj⟩ := hput i _ j hx
    have hjl := hneed j hn
    have hrow := I.boxed j d1 t1 z1 (some (i, vs1)) n1 hj hjl
    simp only [nowC, huf, Bool.false_eq_true, if_false] at hrow
    have hz : z1.size = vs1.size := by
      have hjs : j < ops.size := by rw [← hlen]; exact hlt j _ hj
      obtain ⟨y, hy⟩ := hget j ops[j] (Array.getElem?_eq_getElem hjs)
      have hyj := hy
      rw [hj] at hyj
      injection hyj with hyj; injection hyj with e1 e2
      have := hob j ops[j] y (Array.getElem?_eq_getElem hjs) hy
      rw [← e2] at this
      exact this.1 i vs1 rfl
    rw [hO p listed a w I hneed d1 t1 z1 (some (i, vs1)) n1 hj hrow.2, Oper.upon_skip]
    have st := I.step (q := p) (w' := w.setCells (p j) 0 vs1.toList) hx hD (fun d e => hfit i d (.put j) (by rw [hx, e])) hu (fun _ _ => rfl) (fun _ => rfl) (Below.setCellsAll I.below hrow.1 _ _) ?_ (aprt (by intros; simp))
    · exact hK p _ _ st
    · intro k d t z s vs hk hl
      rw [old k (same (by intros; simp) k d t z s vs hk)] at hl
      by_cases hkj : k = j
      · subst hkj
        rw [hj] at hk
        injection hk with hk; injection hk with e1 e2; injection e2 with e3 e4 e5 e6
        subst e3; subst e4; subst e5; subst e6
        simp only [nowC, getD_set_eq hil, if_true]
        exact ⟨hrow.1, hrow.2.setAll hz⟩
      · have e2 : nowC (listed.setIfInBounds i true) z s = nowC listed z s := now_same fun s' vs' e hs => by
          subst e; subst hs
          have h1 := hstore k d t z s' vs' vs hk
          rw [hx] at h1
          injection h1 with h1; injection h1 with _ h1; injection h1 with h1
          exact hkj h1.symm
        rw [e2]
        have h0 := I.boxed k d t z s vs hk hl
        exact ⟨h0.1, h0.2.setFar (I.apart k j d t z s vs d1 t1 z1 _ n1 hk hj hl hjl hkj) _ _⟩
theorem boxed_fin {L : Plan} {a0 : Act} {w0 : World} (H : PlanOk ops L a0.tmps.size) {R : Act → World → Prop}
    (hend : ∀ p w, BoxI L a0 w0 p (Array.replicate ops.size true) { a0 with tmps := layL p L 0 a0.tmps } w → R { a0 with tmps := layL p L 0 a0.tmps } w) :
    ∀ p listed a w, BoxI L a0 w0 p listed a w → (∀ k, k < ops.size → listed.getD k true = true) → R a w := by
  obtain ⟨hlen, hget, hfit, hguard, hD, hstore, hput, hord, -, -⟩ := H
  have hlt : ∀ (k : Nat) (x : Option Tmp × Pl), L[k]? = some x → k < L.length := fun k x h => (List.getElem?_eq_some_iff.1 h).1
  intro p listed a w I hall
  have hl : listed = Array.replicate ops.size true := by
    apply Array.ext
    · rw [I.size, hlen]; simp
    · intro k h1 h2
      have h3 := hall k (by simpa using h2)
      rw [Array.getD_eq_getD_getElem?, Array.getElem?_eq_getElem h1] at h3
      simpa using h3
  have hlk : ∀ k, k < ops.size → listed.getD k false = true := fun k hk => getD_ft (by rw [I.size, hlen]; exact hk) (hall k hk)
  have ht : a.tmps = layL p L 0 a0.tmps := by
    apply Array.ext_getElem?
    intro s
    by_cases hs : ∃ (k : Nat) (x : Pl), L[k]? = some (some s, x)
    · obtain ⟨k, x, hk⟩ := hs
      rw [I.slot k s x hk (hlk k (by rw [← hlen]; exact hlt k _ hk)), layL_slot p s x L 0 a0.tmps k hD hk (hfit k s x hk), Nat.zero_add]
    · have hs' : ∀ (k : Nat) (x : Pl), L[k]? ≠ some (some s, x) := fun k x e => hs ⟨k, x, e⟩
      rw [I.rest s hs', layL_rest p s L 0 a0.tmps hs']
  have ha : a = { a0 with tmps := layL p L 0 a0.tmps } := by
    have hd := I.df
    cases a
    simp only at ht hd
    rw [ht, hd]
  subst hl
  rw [ha] at I ⊢
  exact hend p w I
theorem needed {i : Nat} {o : Oper} {listed : Array Bool} (ho : ops[i]? = some o) (hdep : ∀ e ∈ o.after, Region.binds .any e = true → listed.getD e.on false = true) : ∀ j, needB ops i j = true → listed.getD j false = true := fun j hj => by
  unfold needB at hj
  rw [ho] at hj
  simp only at hj
  obtain ⟨e, he, h2⟩ := List.any_eq_true.1 hj
  simp only [Bool.and_eq_true, beq_iff_eq] at h2
  rw [← h2.2]
  exact hdep e (by simpa using he) h2.1
theorem needs_set {i : Nat} {listed : Array Bool} (hneed : ∀ j, needB ops i j = true → listed.getD j false = true) (hO0 : ∀ k j, needB ops k j = true → listed.getD k false = true → listed.getD j false = true) :
    ∀ k j, needB ops k j = true → (listed.setIfInBounds i true).getD k false = true → (listed.setIfInBounds i true).getD j false = true := fun k j hkj hl => by
  by_cases hki : k = i
  · subst hki; exact getD_set_true (hneed j hkj)
  · rw [getD_set_ne false (Ne.symm hki)] at hl; exact getD_set_true (hO0 k j hkj hl)
theorem boxed_row {L : Plan} {a0 : Act} {w0 : World} (H : PlanOk ops L a0.tmps.size) (hob : ∀ (k : Nat) (o : Oper) (x : Pl), ops[k]? = some o → L[k]? = some (o.dst, x) → Ob P ops L a0 w0 k o x)
    (hend : ∀ p w, BoxI L a0 w0 p (Array.replicate ops.size true) { a0 with tmps := layL p L 0 a0.tmps } w → Q .normal { a0 with tmps := layL p L 0 a0.tmps } w) :
    ∀ (n k : Nat) (p : Nat → Nat) (listed : Array Bool) (a : Act) (w : World), n + k = ops.size → BoxI L a0 w0 p listed a w → (∀ j, j < ops.size → listed.getD j true = decide (j < k)) → (∀ k j, needB ops k j = true → listed.getD k false = true → listed.getD j false = true) →
      wpOps P ops Q (List.range' k n) a w := by
  intro n
  induction n with
  | zero =>
    intro k p listed a w hn I hl hO0
    exact boxed_fin (R := Q .normal) H hend p listed a w I fun j hj => by rw [hl j hj]; exact decide_eq_true (by omega)
  | succ n ih =>
    intro k p listed a w hn I hl hO0
    have hk : k < ops.size := by omega
    rw [List.range'_succ, wpOps_cons]
    have hneed := needed (listed := listed) (Array.getElem?_eq_getElem hk) fun e he hb => by
      have h2 := H.ord k hk e he hb
      exact getD_ft (by rw [I.size, H.len]; omega) ((hl e.on (by omega)).trans (decide_eq_true h2))
    refine boxed_step H hob I hO0 hk (by rw [hl k hk]; exact decide_eq_false (by omega)) hneed fun p' a' w' I' => ih (k + 1) p' _ a' w' (by omega) I' (fun j hj => ?_) (needs_set hneed hO0)
    by_cases hjk : k = j
    · subst hjk
      rw [getD_at (v := true) (by simp [I.size, H.len, hk])]
      exact (decide_eq_true (by omega)).symm
    · rw [getD_set_ne true hjk, hl j hj]
      simp only [decide_eq_decide]
      omega
def Obs (P : Program) (ops : Array Oper) (L : Plan) (a0 : Act) (w0 : World) : Nat → List Oper → Plan → Prop
  | k, o :: os, (_, x) :: r => Ob P ops L a0 w0 k o x ∧ Obs P ops L a0 w0 (k + 1) os r
  | _, [], [] => True
  | _, _, _ => False
theorem obs_at {L : Plan} {a0 : Act} {w0 : World} : ∀ {os : List Oper} {r : Plan} {n : Nat}, Obs P ops L a0 w0 n os r → ∀ (k : Nat) (o : Oper) (d : Option Tmp) (x : Pl), os[k]? = some o → r[k]? = some (d, x) → Ob P ops L a0 w0 (n + k) o x
  | o :: os, (d, x) :: r, n, h, 0, o', d', x', ho, hx => by
    simp at ho hx
    subst ho
    rw [← hx.2]
    exact h.1
  | o :: os, (d, x) :: r, n, h, k + 1, o', d', x', ho, hx => by
    rw [show n + (k + 1) = (n + 1) + k by omega]
    exact obs_at h.2 k o' d' x' (by simpa using ho) (by simpa using hx)
  | [], _, _, _, k, _, _, _, ho, _ => by simp at ho
  | _ :: _, [], _, _, k, _, _, _, _, hx => by simp at hx
theorem boxed_zero {L : Plan} {a0 : Act} {w0 w : World} (hlen : L.length = ops.size) (hb : Below w0.heap.size w0 w) : BoxI L a0 w0 (fun _ => 0) (Array.replicate ops.size false) a0 w ∧ ∀ k j, needB ops k j = true → (Array.replicate ops.size false).getD k false = true → (Array.replicate ops.size false).getD j false = true := by
  have fa : ∀ k, (Array.replicate ops.size false).getD k false = false := fun k => by
    rw [Array.getD_eq_getD_getElem?]
    cases h : (Array.replicate ops.size false)[k]? with
    | none => rfl
    | some b =>
      have := Array.mem_of_getElem? h
      simp at this
      exact this.2
  refine ⟨⟨by simp [hlen], rfl, rfl, fun k d x hk hl => ?_, fun s _ => rfl, hb, fun k d t z s vs hk hl => ?_, fun k l d t z s vs d' t' z' s' vs' hk hl h1 => ?_⟩, fun k j _ hl => ?_⟩
  · rw [fa] at hl; cases hl
  · rw [fa] at hl; cases hl
  · rw [fa] at h1; cases h1
  · rw [fa] at hl; cases hl
def BoxEnd (L : Plan) (w0 : World) (p : Nat → Nat) (w : World) : Prop := Below w0.heap.size w0 w ∧
  (∀ (k : Nat) (d : Option Tmp) (t : TypeId) (z : Array Value) (s : Option (Nat × Array Value)) (vs : Option Nat), L[k]? = some (d, .box t z s vs) → w0.heap.size ≤ p k ∧ Row w (p k) t (endC z s)) ∧
  (∀ (k l : Nat) (d : Option Tmp) (t : TypeId) (z : Array Value) (s : Option (Nat × Array Value)) (vs : Option Nat) (d' : Option Tmp) (t' : TypeId) (z' : Array Value) (s' : Option (Nat × Array Value)) (vs' : Option Nat), L[k]? = some (d, .box t z s vs) → L[l]? = some (d', .box t' z' s' vs') → k ≠ l → p k ≠ p l)
theorem BoxI.fin {L : Plan} {a0 : Act} {w0 : World} {N : Nat} (H : PlanOk ops L N) {p : Nat → Nat} {a : Act} {w : World} (I : BoxI L a0 w0 p (Array.replicate ops.size true) a w) : BoxEnd L w0 p w := by
  have hlt : ∀ (k : Nat) (x : Option Tmp × Pl), L[k]? = some x → k < ops.size := fun k x h => by rw [← H.len]; exact (List.getElem?_eq_some_iff.1 h).1
  have tr : ∀ k, k < ops.size → (Array.replicate ops.size true).getD k false = true := fun k hk => getD_at (by simp [hk])
  refine ⟨I.below, fun k d t z s vs hk => ?_, fun k l d t z s vs d' t' z' s' vs' hk hl hne => I.apart k l d t z s vs d' t' z' s' vs' hk hl (tr k (hlt k _ hk)) (tr l (hlt l _ hl)) hne⟩
  have h := I.boxed k d t z s vs hk (tr k (hlt k _ hk))
  rcases s with _ | ⟨s, u⟩
  · exact h
  · simp only [nowC, tr s (hlt s _ (H.store k d t z s u vs hk)), if_true] at h
    exact h
theorem ob_of {L : Plan} {a0 : Act} {w0 : World} (hobs : Obs P ops L a0 w0 0 ops.toList L) (k : Nat) (o : Oper) (x : Pl) (ho : ops[k]? = some o) (hx : L[k]? = some (o.dst, x)) : Ob P ops L a0 w0 k o x := by
  have := obs_at hobs k o o.dst x (by simpa using ho) hx
  rwa [Nat.zero_add] at this
theorem region_row {id : Nat} {a0 : Act} {w0 : World} (L : Plan) (hB : planB ops L a0.tmps.size = true) (hobs : Obs P ops L a0 w0 0 ops.toList L)
    (hend : ∀ (p : Nat → Nat) w, BoxEnd L w0 p w → Q .normal (litA L a0 p) w) : (Code.region id ops false).wp P Q a0 w0 := by
  have H := planOk hB
  obtain ⟨I, h0⟩ := boxed_zero (a0 := a0) (ops := ops) H.len (Below.refl w0.heap.size w0)
  refine wp_region ?_
  rw [List.range_eq_range']
  exact boxed_row H (ob_of hobs) (fun p w I => hend p w (I.fin H)) ops.size 0 _ _ a0 w0 (by omega) I (fun j hj => by rw [getD_at (v := false) (by simp [hj])]; rfl) h0
end
set_option maxRecDepth 100000 in
set_option maxHeartbeats 4000000 in
theorem regs_same (g : Rg) (w : World) : (Op.equalIn 10000 24 (regsV g) (regsV g)).run Tryz.prog w = .ok true w := by
  unfold regsV regsC
  rw [run_equalIn_agg (P := Tryz.prog) w 9999 24 _ _ (by kernel_rfl) (by kernel_rfl)]
  simp [go_sem]
theorem regs_eql (g : Rg) (w : World) : (binOp .eql 24 (regsV g) (regsV g)).run Tryz.prog w = .ok (.bool true) w := by
  have h := regs_same g w
  unfold regsV at *
  rw [run_eql_struct, h]
  rfl
theorem regs_neq (g : Rg) (w : World) : (binOp .neq 24 (regsV g) (regsV g)).run Tryz.prog w = .ok (.bool false) w := by
  have h := regs_same g w
  unfold regsV at *
  rw [run_neq_struct, h]
  rfl
theorem regs_guard (op : BinOp) (g h : Rg) (x y : Operand) (w : World) : (eqGuard op 24 x y (regsV g) (regsV h)).run Tryz.prog w = .ok () w := by
  unfold regsV
  exact run_eqGuard_agg (P := Tryz.prog) w op _ x y _ _ (by kernel_rfl)
theorem cells_list_new' (w : World) (cs : List Value) (t : TypeId) : ∀ j u, cs[j]? = some u → (w.alloc (.cells cs.toArray t)).cell? ((⟨w.heap.size, 0, none⟩ : Addr).add j) = some u := by
  intro j u hj
  have h := (Row.new w t cs.toArray).cell j
  have e : (⟨w.heap.size, 0, none⟩ : Addr).add j = ⟨w.heap.size, j, none⟩ := by
    unfold Addr.add
    split
    · rename_i h0; rw [h0]
    · simp
  rw [e, h]
  simpa using hj
theorem own_below {w w' : World} {b : Nat} {e : TypeId} {s : Nat} {v : Value} {n : Nat} {xs : List Value} (h : w.ownsRow b e s v n xs) (k : Below w.heap.size w w') : w'.ownsRow b e s v n xs := by
  refine h.kept (row := none) ⟨k.os, k.tape, k.output, k.size, fun i hi _ => k.block i hi⟩ ?_
  cases e2 : v.ownBlock with
  | none => exact .inl rfl
  | some g => exact .inr (by simp)
theorem grown_below {w W w1 : World} {base : Nat} {e : TypeId} {size : Nat} {v : Value} {n : Nat} {xs : List Value} (h : Below w.heap.size w W) (hg : W.grownBy w1 v.ownBlock) (ho : W.ownsRow base e size v n xs) (hb : w.heap.size ≤ base) : Below w.heap.size w w1 :=
  h.grown hg h.size (fun k e => Nat.le_trans hb (ho.lt k e).1)
def bvs (l : List Int) : List Value := l.map fun x => .int .u8 x
theorem u8_info : (Tryz.prog.info? 5).map (fun i => (i.zero, i.size, i.bytes)) = some (some (.int .u8 0), 1, 1) := by kernel_rfl
theorem bvs_one (l : List Int) : ∀ u ∈ bvs l, u.oneCell' = true := by
  intro u hu
  unfold bvs at hu
  rw [List.mem_map] at hu
  obtain ⟨x, -, rfl⟩ := hu
  rfl
theorem bvs_append (l m : List Int) : bvs l ++ bvs m = bvs (l ++ m) := by simp [bvs]
theorem bvs_length (l : List Int) : (bvs l).length = l.length := by simp [bvs]
theorem own_bytes {w : World} {b n c : Nat} {Av : Option Addr} {l : List Int} (h : w.ownsRow b 5 1 (.slice Av n c) n (bvs l)) : BytesIn w w.heap.size Av l := by
  rcases h.2 with ⟨e1, e2⟩ | ⟨g, cap, cur, e1, -, hh, -⟩
  · have h1 := h.1
    rw [bvs_length, e2] at h1
    obtain rfl : l = [] := List.eq_nil_of_length_eq_zero (by omega)
    exact BytesIn.nil _ _ _
  · injection e1 with e3 e4 e5
    subst e3
    intro j x hx
    refine ⟨_, rfl, (Array.getElem?_eq_some_iff.1 hh).1, h.cells (g := g) rfl j _ ?_⟩
    unfold bvs
    rw [List.getElem?_map, hx]
    rfl
theorem wpList_append_bytes {ops : Array Oper} {rest : List Oper} {o : Oper} {a : Act} {w : World} {Q : Exit → Act → World → Prop} (hgd : o.guard = none) (s x : Operand)
    (ho : o.op = .call { callee := .builtin .append, args := #[s, x], argTypes := #[25, 25] })
    (w0 : World) (base B : Nat) (hB : Below w0.heap.size w0 w) (hb0 : w0.heap.size ≤ base) (hbase : base ≤ w.heap.size)
    (v : Value) (n : Nat) (l : List Int) (hs : a.eval s = v) (hown : w.ownsRow base 5 1 v n (bvs l))
    (A : Option Addr) (c : Nat) (ys : List Int) (hx : a.eval x = .slice A ys.length c) (hy : BytesIn w B A ys) (hn : A = none → c = 0) (hmax : n + ys.length ≤ 140737488355328)
    (h : ∀ v' w', w'.ownsRow base 5 1 v' (n + ys.length) (bvs (l ++ ys)) → Below w0.heap.size w0 w' → base ≤ w'.heap.size → wpList Tryz.prog ops Q rest (a.put o.dst v') w') :
    wpList Tryz.prog ops Q (o :: rest) a w := by
  obtain ⟨i0, hi0, hz0, hz1, hz2⟩ := info_parts u8_info
  rcases A with _ | p
  · obtain rfl := hn rfl
    have hy0 : ys = [] := by
      cases ys with
      | nil => rfl
      | cons y ys' =>
        obtain ⟨ad, e, -⟩ := hy 0 y rfl
        cases e
    subst hy0
    refine wpList_append_own_none hgd s x _ ho base 5 i0 1 Tryz.underlying25 hi0 v n (bvs l) hs hown hx ?_
    exact h v w (by simpa using hown) hB hbase
  · refine wpList_append_own_at _ hgd s x _ ho base 5 i0 _ 1 1 Tryz.underlying25 hi0 hz0 hz1 hz2 rfl (by omega) v n (bvs l) hs hown p ys.length c (bvs ys) hx (by rw [bvs_length]; omega) (fun j u hj => ?_) (bvs_one ys) (by simp only [maxLen]; omega) (by omega) hbase ?_
    · unfold bvs at hj
      rw [List.getElem?_map] at hj
      obtain ⟨y, hy1, hy2⟩ := Option.map_eq_some_iff.1 hj
      obtain ⟨ad, e1, -, e2⟩ := hy j y hy1
      cases e1
      rw [e2, ← hy2]
    · intro v' w' own' hg _ _
      rw [bvs_append] at own'
      exact h v' w' own' (grown_below hB hg hown hb0) (Nat.le_trans hbase hg.size)
theorem own_slice {W : World} {b n : Nat} {v : Value} {l : List Int} (h : W.ownsRow b 5 1 v n (bvs l)) : ∃ A c, v = .slice A n c ∧ n ≤ c ∧ BytesIn W W.heap.size A l ∧ (A = none → c = 0) := by
  rcases h.2 with ⟨e1, e2⟩ | ⟨g, c, cur, e1, -, -, hle, -⟩
  · subst e1 e2
    exact ⟨none, 0, rfl, Nat.le_refl _, own_bytes h, fun _ => rfl⟩
  · subst e1
    exact ⟨_, c, rfl, hle, own_bytes h, fun e => by cases e⟩
theorem byte_new (w : World) (b : Int) (t : TypeId) : BytesIn (w.alloc (.cells #[.int .u8 b] t)) (w.heap.size + 1) (some ⟨w.heap.size, 0, none⟩) [b] := fun j x hx => by
  obtain ⟨rfl, rfl⟩ : j = 0 ∧ x = b := by
    cases j with
    | zero => simp at hx; exact ⟨rfl, hx.symm⟩
    | succ j => simp at hx
  exact ⟨_, rfl, by simp, cells_list_new' w [.int .u8 x] t 0 _ rfl⟩
theorem cy_same (c : Cy) (w : World) : (Op.equalIn 10000 28 (cyV c) (cyV c)).run Tryz.prog w = .ok true w := by
  unfold cyV cyC
  rw [run_equalIn_agg (P := Tryz.prog) w 9999 28 _ _ (by kernel_rfl) (by kernel_rfl)]
  simp [go_sem]
theorem cy_eql (c : Cy) (w : World) : (binOp .eql 28 (cyV c) (cyV c)).run Tryz.prog w = .ok (.bool true) w := by
  have h := cy_same c w
  unfold cyV at *
  rw [run_eql_struct, h]
  rfl
theorem cy_neq (c : Cy) (w : World) : (binOp .neq 28 (cyV c) (cyV c)).run Tryz.prog w = .ok (.bool false) w := by
  have h := cy_same c w
  unfold cyV at *
  rw [run_neq_struct, h]
  rfl
theorem cy_guard (op : BinOp) (c d : Cy) (x y : Operand) (w : World) : (eqGuard op 28 x y (cyV c) (cyV d)).run Tryz.prog w = .ok () w := by
  unfold cyV
  exact run_eqGuard_agg (P := Tryz.prog) w op _ x y _ _ (by kernel_rfl)
structure NextTabs (w : World) : Prop where
  masks : Masks w
  courses : Courses w
  digits : Digits w
  modes : Modes w
theorem NextTabs.tabs {w : World} (h : NextTabs w) : Tabs w w.heap.size :=
  ⟨h.masks, h.courses, h.digits, h.modes, World.block_lt_of_cell? _ _ h.masks.1, World.block_lt_of_cell? _ _ h.courses.1, World.block_lt_of_cell? _ _ h.digits.1, World.block_lt_of_cell? _ _ h.modes.1⟩
theorem Tabs.more {w : World} {B B' : Nat} (h : Tabs w B) (k : B ≤ B') : Tabs w B' := ⟨h.masks, h.courses, h.digits, h.modes, Nat.lt_of_lt_of_le h.gMasks k, Nat.lt_of_lt_of_le h.gCourses k, Nat.lt_of_lt_of_le h.gDigits k, Nat.lt_of_lt_of_le h.gModes k⟩
theorem Tabs.below {w w' : World} (h : Tabs w w.heap.size) (k : Below w.heap.size w w') : Tabs w' w'.heap.size := (h.keep fun b hb => k.block b hb).more k.size
theorem next_hid (g : Rg) (hg : RgB g) (A : Option Addr) (cap : Nat) (xs : List Int) (hc : xs.length ≤ cap) (h8 : Bytes8 xs) (w : World) (hin : BytesIn w w.heap.size A xs) (ht : Tabs w w.heap.size) :
    ∀ W, Below w.heap.size w W → Calls Tryz.prog 12 #[regsV g, .slice A xs.length cap] W fun e w' => e = .returned (.tuple #[cyV (cyOf (nextOf g xs)), regsV (rgOf (nextOf g xs)), .bool (doneOf (nextOf g xs))]) ∧ Below W.heap.size W w' := fun W hW => by
  have h := nnext_any g hg A cap xs hc h8 W ((hin.below hW).more hW.size) (ht.below hW)
  rwa [tellV_eq] at h
theorem Row.at {w : World} {g : Nat} {t : TypeId} {cs : Array Value} (h : Row w g t cs) (i : Nat) (V : Value) (e : cs[i]? = some V := by exact rfl) : w.cell? ⟨g, i, none⟩ = some V := (h.cell i).trans e
section
variable {P : Program} {a : Act} {o : Oper} {x y : Operand} {V W R : Value}
theorem heBS {t : TypeId} {n : Nat} {parts : Array (Nat × Operand)} {ps : Array (Nat × Value)} {w w' : World} (ho : o.op = .buildSlice t n parts) (hx : (parts.map fun (i, x) => (i, a.eval x)) = ps) (h : (Instr.buildSlice t n ps).run P w = .ok V w') : (execOp a.eval o).run P w = .ok (.value V) w' := by
  unfold execOp
  simp only [ho, hx, Sem.run_bind, Sem.run_pure, h, Result.andThen_ok]
theorem heSlice {t : TypeId} {lo hi mx : Option Operand} {l m n : Option Value} {w : World} (ho : o.op = .slice t x lo hi mx) (hx : a.eval x = V) (hl : lo.map a.eval = l) (hh : hi.map a.eval = m) (hm : mx.map a.eval = n) (h : (Instr.sliceAt t V l m n).run P w = .ok R w) : (execOp a.eval o).run P w = .ok (.value R) w := by
  unfold execOp
  simp only [ho, hx, hl, hh, hm, Sem.run_bind, Sem.run_pure, h, Result.andThen_ok]
end
theorem slFrom1 (A : Option Addr) (n c : Nat) (h : 1 ≤ n) (hc : n ≤ c) (w : World) : (Instr.sliceAt 25 (.slice A n c) (some (.int .i64 1)) none none).run Tryz.prog w = .ok (.slice (if c = 1 then A else A.map (·.add 1)) (n - 1) (c - 1)) w := by
  have h1 : ¬ ((n : Int) < 1) := by omega
  simp [go_sem, h1]
theorem bs1 (b : Int) (w : World) : (Instr.buildSlice 25 1 #[(0, .int .u8 b)]).run Tryz.prog w = .ok (.slice (some ⟨w.heap.size, 0, none⟩) 1 1) (w.alloc (.cells #[.int .u8 b] 5)) := by simp [go_sem]
theorem bs2 (b c : Int) (w : World) : (Instr.buildSlice 25 2 #[(0, .int .u8 b), (1, .int .u8 c)]).run Tryz.prog w = .ok (.slice (some ⟨w.heap.size, 0, none⟩) 2 2) (w.alloc (.cells #[.int .u8 b, .int .u8 c] 5)) := by simp [go_sem]
theorem fC0 (b : Nat) (w : World) : (Instr.fieldAt 28 (pT b 0) 0).run Tryz.prog w = .ok (pT b 0) w := by simp [go_sem]
theorem fC3 (b : Nat) (w : World) : (Instr.fieldAt 28 (pT b 0) 3).run Tryz.prog w = .ok (pT b 3) w := by simp [go_sem]
theorem ix0 (ad : Addr) (n c : Nat) (h : 1 ≤ n) (w : World) : (Instr.indexAt 25 (.slice (some ad) n c) (.int .i64 0)).run Tryz.prog w = .ok (.pointer (some (ad.add 0))) w := by
  have h1 : 0 < n := h
  simp [go_sem, h1]
theorem ixk (ad : Addr) (n c k : Nat) (h : k < n) (w : World) : (Instr.indexAt 25 (.slice (some ad) n c) (.int .i64 (k : Int))).run Tryz.prog w = .ok (.pointer (some (ad.add k))) w := by
  have h1 : ¬ ((k : Int) < 0) := by omega
  simp [go_sem, h1, h]
theorem egB (op : BinOp) (x y : Operand) (a b : Bool) (w : World) : (eqGuard op 4 x y (.bool a) (.bool b)).run Tryz.prog w = .ok () w := by simp [go_sem]
theorem bNeB0 (x : Bool) (w : World) : (binOp .neq 4 (.bool x) (.bool x)).run Tryz.prog w = .ok (.bool false) w := by simp [go_sem]
theorem bEq16 (x y : Int) (w : World) : (binOp .eql 22 (.int .u16 x) (.int .u16 y)).run Tryz.prog w = .ok (.bool (x == y)) w := by simp [go_sem]
theorem bGtI' (x y : Int) (w : World) : (binOp .gtr 3 (.int .i64 x) (.int .i64 y)).run Tryz.prog w = .ok (.bool (decide (y < x))) w := by simp [go_sem]
theorem bAddI' (x y : Int) (h : -9223372036854775808 ≤ x + y) (h' : x + y ≤ 9223372036854775807) (w : World) : (binOp .add 3 (.int .i64 x) (.int .i64 y)).run Tryz.prog w = .ok (.int .i64 (x + y)) w := by
  have e : IntKind.i64.wrap (x + y) = x + y := by rw [IntKind.wrap_i64]; omega
  simp [go_sem, e]
theorem bInc (n : Nat) (h : n ≤ 1000000000) (w : World) : (binOp .add 3 (.int .i64 (n : Int)) (.int .i64 1)).run Tryz.prog w = .ok (.int .i64 ((n + 1 : Nat) : Int)) w := by
  have e : IntKind.i64.wrap ((n : Int) + 1) = ((n + 1 : Nat) : Int) := by rw [IntKind.wrap_i64]; omega
  simp [go_sem, e]
theorem blockO {Q : Exit → Act → World → Prop} {a : Act} {w : World} {i j : Nat} (hne : j ≠ i) (h : Q (.exit j) a w) : Exit.inBlock i Q (.exit j) a w := by simp only [Exit.inBlock, if_neg hne]; exact h
def lenV : Value → Nat | .slice _ n _ => n | _ => 0
def intV : Value → Nat | .int _ x => x.toNat | _ => 0
section
variable {P : Program} {ops : Array Oper} {Q : Exit → Act → World → Prop} {a : Act} {w : World} {o : Oper} {rest : List Oper} {x y : Operand} {t : TypeId}
theorem oW (d : Tmp) (V R : Value) {op : UnOp} (hb : ∀ w, (Op.unary op V).run P w = .ok R w) (h : WL P ops Q rest (a.put (some d) R) w) (hd : o.dst = some d := by exact rfl) (hg : o.guard = none := by exact rfl) (ho : o.op = .unOp op t x := by exact rfl) (hx : a.eval x = V := by kernel_rfl) : WL P ops Q (o :: rest) a w := sUn d V R hd hg ho hx hb h
theorem oG (V : Value) {g : FuncId} {args : Array Value} {N : World → Prop} (hc : Calls P g args w fun e w' => e = .returned V ∧ N w') (h : ∀ w', N w' → WL P ops Q rest (a.put o.dst V) w') (hw : Region.wanted o (yielded ops a.tmps) = true := by kernel_rfl) (he : (execOp a.eval o).run P w = .ok (.enter g args) w := by kernel_rfl) : WL P ops Q (o :: rest) a w :=
  list_call hw he hc fun e w' ⟨h1, h2⟩ => by subst h1; exact h w' h2
theorem oV (d : Tmp) (n : Nat) (cs : Array Value) (e : TypeId) (ps : Array (Nat × Value)) {parts : Array (Nat × Operand)} (hl : (Instr.buildSlice t n ps).run P w = .ok (.slice (some ⟨w.heap.size, 0, none⟩) n n) (w.alloc (.cells cs e))) (h : WL P ops Q rest (a.put (some d) (.slice (some ⟨w.heap.size, 0, none⟩) n n)) (w.alloc (.cells cs e)))
    (hd : o.dst = some d := by exact rfl) (hg : o.guard = none := by exact rfl) (ho : o.op = .buildSlice t n parts := by exact rfl) (hx : (parts.map fun (i, x) => (i, a.eval x)) = ps := by kernel_rfl) : WL P ops Q (o :: rest) a w := list_make d _ hd (wantedN hg) (heBS ho hx hl) h
end
theorem oE {ops : Array Oper} {Q : Exit → Act → World → Prop} {a : Act} {w : World} {o : Oper} {rest : List Oper} {s x : Operand} (w0 : World) (base : Nat) {B : Nat} {v : Value} {n : Nat} {l : List Int} {A : Option Addr} {c : Nat} (ys : List Int) (hB : Below w0.heap.size w0 w) (hb0 : w0.heap.size ≤ base) (hbase : base ≤ w.heap.size) (hown : w.ownsRow base 5 1 v n (bvs l)) (hy : BytesIn w B A ys) (hn : A = none → c = 0) (hmax : n + ys.length ≤ 140737488355328)
    (h : ∀ v' w', w'.ownsRow base 5 1 v' (n + ys.length) (bvs (l ++ ys)) → Below w0.heap.size w0 w' → base ≤ w'.heap.size → WL Tryz.prog ops Q rest (a.put o.dst v') w')
    (hg : o.guard = none := by exact rfl) (ho : o.op = .call { callee := .builtin .append, args := #[s, x], argTypes := #[25, 25] } := by exact rfl) (hs : a.eval s = v := by kernel_rfl) (hx : a.eval x = .slice A ys.length c := by kernel_rfl) : WL Tryz.prog ops Q (o :: rest) a w :=
  ⟨wpList_append_bytes hg s x ho w0 base B hB hb0 hbase v n l hs hown A c ys hx hy hn hmax fun v' w' h1 h2 h3 => (h v' w' h1 h2 h3).h⟩
theorem bEqI0 (x : Int) (w : World) : (binOp .eql 3 (.int .i64 x) (.int .i64 x)).run Tryz.prog w = .ok (.bool true) w := by simp [go_sem]
section
variable {P : Program} {ops : Array Oper} {Q : Exit → Act → World → Prop} {md : Region.Mode} {S : World → Prop} {fuel : Nat} {listed : Array Bool} {a : Act} {w : World}
theorem heldTake {i : Nat} {o : Oper} (d : Tmp) (v : Value) (hd : o.dst = some d) (ho : ops[i]? = some o) (hs : Region.noSelect ops = true) (hf : Region.free md ops listed i = true) (hr : (Region.ready md ops listed).contains i = true)
    (hQ : ∀ c a w, Q (.panic c) (a.put o.dst v) w → Q (.panic c) a w) (hw : Region.wanted o (yielded ops a.tmps) = true) (he : ∀ w, S w → (execOp a.eval o).run P w = .ok (.value v) w) (hS : S w)
    (h : wpAnyH P md ops Q S fuel (listed.setIfInBounds i true) (a.put (some d) v) w) : wpAnyH P md ops Q S (fuel + 1) listed a w :=
  wpAnyH_take ho hs hf hr hQ (.inl ⟨hw, he⟩) hS (by rw [hd]; exact h)
theorem held_start {id : Nat} (S : World → Prop) (hm : P.follows .mixedOrders = true) (hk : ∀ w', S w' → S w'.drew) (hS : S w)
    (h : ∀ w', S w' → wpAnyH P .any ops Q S ops.size (Array.replicate ops.size false) a w') : (Code.region id ops true).wp P Q a w :=
  wp_region_held_drew (S := S) hm (hk w hS) (fun hS' => h _ hS')
end
set_option maxHeartbeats 2000000 in
theorem reads_any (k : Int) (w : World) : Calls Tryz.prog 32 #[.int .i64 k] w (fun e w' => e = .returned (.bool (readsM k)) ∧ Below w.heap.size w w') := by
  unfold readsM
  go_enter Tryz.func32, Tryz.ntmps32
  go_wp2_with fail
  · rename_i h; subst h; exact retI 2 (.bool true) rfl rfl rfl ⟨rfl, Below.refl ..⟩
  · rename_i h; subst h; exact retI 2 (.bool true) rfl rfl rfl ⟨rfl, Below.refl ..⟩
  · refine retI 2 (.bool (k == 1 || k == 2 || k == 4)) rfl rfl rfl ⟨?_, Below.refl ..⟩
    rw [Bool.or_assoc]
set_option maxHeartbeats 2000000 in
theorem reads_any' (k : Int) (w : World) : Calls Tryz.prog 32 #[.int .i64 k] w (fun e w' => e = .returned (.bool (readsM k)) ∧ Below w.heap.size w w') := reads_any k w
set_option maxRecDepth 20000 in
set_option maxHeartbeats 16000000 in
theorem ntakes_any (g : Rg) (hg : RgB g) (A : Option Addr) (cap : Nat) (ans : List Int) (hc : ans.length ≤ cap) (hans : Bytes8 ans) (w : World) (hin : BytesIn w w.heap.size A ans) (ht : Tabs w w.heap.size) :
    Calls Tryz.prog 16 #[regsV g, .slice A ans.length cap] w fun e w' => e = .returned (.tuple #[.int .i64 (takesOf g ans).1, .int .i64 ((takesOf g ans).2.length : Int)]) ∧ Below w.heap.size w w' := by
  have hb := Below.refl w.heap.size w
  go_enter Tryz.func16, Tryz.ntmps16
  refine wp_seq_k fun K1 hK1 => ?_
  refine region_row [(some 2, .box 24 (regsC g) none none), (some 4, .val (.int .i64 (0))), (some 5, .val (.int .i64 (0)))] (by kernel_rfl) ⟨⟨fun k vs e => (by cases e), fun p l a w I hd => heBox rfl (by kernel_rfl) (boxRg _ w)⟩, fun p l a w I hd => heMove (.inr rfl) (by kernel_rfl) w, fun p l a w I hd => heMove (.inr rfl) (by kernel_rfl) w, trivial⟩ ?_
  intro p2 W2 hE
  have hb := hb.trans (hE.1.mono hb.size)
  have rb2_0 : Row W2 (p2 0) 24 (regsC g) := (hE.2.1 0 _ _ _ _ _ rfl).2
  clear hE
  try simp only [litA, layL, Pl.value, sA, sB, sC]
  generalize p2 0 = b2_0 at *
  refine thenN (hK1 _ _ ?_)
  refine wp_seq_k fun K3 hK3 => ?_
  refine regionL ?_
  refine oA 6 (.int .i64 (0)) ?_
  refine endL ?_
  try simp only [Act.put, sA, sB, sC]
  refine thenN (hK3 _ _ ?_)
  refine wp_seq_k fun K4 hK4 => ?_
  refine regionL ?_
  refine oA 7 (.slice none 0 0) ?_
  refine endL ?_
  try simp only [Act.put, sA, sB, sC]
  refine thenN (hK4 _ _ ?_)
  refine wp_seq_k fun K5 hK5 => ?_
  refine wp_block ?_
  have hB0 := Below.refl W2.heap.size W2
  have hrlt := rb2_0.lt
  have hb0 := hb
  have hr0 := rb2_0
  refine wp_loop (fun a' w' => ∃ (got1 xs1 : List Int) (n1 : Int) (A1 : Option Addr) (c1 : Nat) (v1 y8 y9 y10 y11 y12 y13 y14 y15 y16 y17 y18 y19 y20 y21 y22 y23 y24 y25 y26 y27 y28 y29 y30 y31 y32 y33 y34 y35 y36 y37 y38 y39 y40 y41 y42 y43 : Value), a' = { tmps := #[regsV g, .slice A1 xs1.length c1, pT b2_0 0, undef, .int .i64 (0), .int .i64 (0), .int .i64 n1, v1, y8, y9, y10, y11, y12, y13, y14, y15, y16, y17, y18, y19, y20, y21, y22, y23, y24, y25, y26, y27, y28, y29, y30, y31, y32, y33, y34, y35, y36, y37, y38, y39, y40, y41, y42, y43, undef, undef, undef], defers := [] } ∧ Below W2.heap.size W2 w' ∧ w'.ownsRow W2.heap.size 5 1 v1 got1.length (bvs got1) ∧ Bytes8 got1 ∧ got1.length ≤ 200 ∧ 0 ≤ n1 ∧ n1 ≤ 7 * (got1.length : Int) ∧ Bytes8 xs1 ∧ BytesIn w w.heap.size A1 xs1 ∧ xs1.length ≤ c1 ∧ takesGo readsM (nextF g) (200 - got1.length) got1 xs1 n1 = takesOf g ans) (fun a' _ => 200 - lenV (a'.tmps.getD 7 undef)) ⟨[], ans, 0, A, cap, .slice none 0 0, undef, undef, undef, undef, undef, undef, undef, undef, undef, undef, undef, undef, undef, undef, undef, undef, undef, undef, undef, undef, undef, undef, undef, undef, undef, undef, undef, undef, undef, undef, undef, undef, undef, undef, undef, undef, rfl, hB0, World.ownsRow_nil _ _ _ _, (fun x h => by cases h), (by decide), (by decide), (by decide), hans, hin, hc, rfl⟩ ?_
  rintro a1 w1 ⟨got1, xs1, n1, A1, c1, v1, y8, y9, y10, y11, y12, y13, y14, y15, y16, y17, y18, y19, y20, y21, y22, y23, y24, y25, y26, y27, y28, y29, y30, y31, y32, y33, y34, y35, y36, y37, y38, y39, y40, y41, y42, y43, rfl, hB, own, hg8, hl200, hn0, hn7, hx8, hin1, hxc, hT⟩
  have rb2_0 := hr0.below hB hrlt
  have hb := hb0.trans (hB.mono hb0.size)
  obtain ⟨Av, cv, rfl, hle, hby, hnn⟩ := own_slice own
  obtain ⟨c, hcE⟩ : ∃ c, c = cyOf (nextOf g got1) := ⟨_, rfl⟩
  obtain ⟨s, hsE⟩ : ∃ s, s = rgOf (nextOf g got1) := ⟨_, rfl⟩
  obtain ⟨d, hdE⟩ : ∃ d, d = doneOf (nextOf g got1) := ⟨_, rfl⟩
  have hF : nextF g got1 = (c, d) := by rw [hcE, hdE]; rfl
  have hct : d = false → 1 ≤ c.t ∧ c.t ≤ 7 := fun h => by rw [hcE]; exact next_t (hdE.symm.trans h)
  have K := next_hid g hg Av cv got1 hle hg8 w1 hby (ht.below hb)
  rw [← hcE, ← hsE, ← hdE] at K
  refine wp_seq_k fun K6 hK6 => ?_
  refine wp_seq_k fun K7 hK7 => ?_
  refine regionL ?_
  refine oM 12 (.slice Av got1.length cv) ?_
  refine oT 13 (.int .i64 ((got1.length : Int))) (by kernel_rfl) ?_
  refine oJ 14 (.int .i64 ((got1.length : Int))) (.int .i64 (200)) (.bool (decide ((got1.length : Int) < 200))) (egI _ _ _ _ _) (bLtI ((got1.length : Int)) 200) ?_
  refine endL ?_
  try simp only [Act.put, sA, sB, sC]
  refine thenN (hK7 _ _ ?_)
  refine wp_cond_split (t := decide ((got1.length : Int) < 200)) (by kernel_rfl) (fun h8 => ?_) (fun h8 => ?_)
  · skip
    have g8 : (got1.length : Int) < 200 := by simpa using h8
    refine wp_skip ?_
    refine thenN (hK6 _ _ ?_)
    refine wp_block ?_
    refine wp_seq_k fun K9 hK9 => ?_
    refine region_row [(some 16, .val (regsV g)), (some 17, .val (.slice Av got1.length cv)), (some 18, .call (.tuple #[cyV c, regsV s, .bool (d)])), (some 15, .val (.tuple #[cyV c, regsV s, .bool (d)])), (some 19, .val (cyV c)), (some 20, .val (regsV s)), (some 21, .val (.bool (d))), (some 8, .box 28 (cyC zeroCy) (some (9, cyC c)) none), (some 9, .box 24 (regsC zeroRg) (some (10, regsC s)) none), (none, .put 7), (none, .put 8), (some 10, .val (.bool (d)))] (by kernel_rfl) ⟨fun p l a w I hd => heLoad rfl (by kernel_rfl) (ldR (rb2_0.below I.below rb2_0.lt).range), fun p l a w I hd => heMove (.inl rfl) (by kernel_rfl) w, fun p l a w I hd => ⟨_, _, (by kernel_rfl), K w I.below⟩, fun p l a w I hd => heMove (.inl rfl) (by kernel_rfl) w, fun p l a w I hd => heExtract (vs := #[cyV c, regsV s, .bool (d)]) rfl (by kernel_rfl) (by kernel_rfl) w, fun p l a w I hd => heExtract (vs := #[cyV c, regsV s, .bool (d)]) rfl (by kernel_rfl) (by kernel_rfl) w, fun p l a w I hd => heExtract (vs := #[cyV c, regsV s, .bool (d)]) rfl (by kernel_rfl) (by kernel_rfl) w, ⟨fun k vs e => (by cases e; rfl), fun p l a w I hd => heAlloc rfl (allocCy w)⟩, ⟨fun k vs e => (by cases e; rfl), fun p l a w I hd => heAlloc rfl (allocRg w)⟩, fun p l a w I hd d t z s vs hj hr => (by cases hj; exact heStore rfl (by kernel_rfl) (by kernel_rfl) (stCy hr)), fun p l a w I hd d t z s vs hj hr => (by cases hj; exact heStore rfl (by kernel_rfl) (by kernel_rfl) (stRow hr)), fun p l a w I hd => heMove (.inr rfl) (by kernel_rfl) w, trivial⟩ ?_
    intro p10 W10 hE
    have rb2_0 := rb2_0.below hE.1 rb2_0.lt
    have own := own_below own hE.1
    have hb := hb.trans (hE.1.mono hb.size)
    have hB := hB.trans (hE.1.mono hB.size)
    have rb10_7 : Row W10 (p10 7) 28 (cyC c) := (hE.2.1 7 _ _ _ _ _ rfl).2
    have rb10_8 : Row W10 (p10 8) 24 (regsC s) := (hE.2.1 8 _ _ _ _ _ rfl).2
    clear hE
    try simp only [litA, layL, Pl.value, sA, sB, sC]
    generalize p10 7 = b10_7 at *
    generalize p10 8 = b10_8 at *
    refine thenN (hK9 _ _ ?_)
    refine wp_seq_k fun K11 hK11 => ?_
    refine wp_seq_k fun K12 hK12 => ?_
    refine regionL ?_
    refine oM 22 (.bool (d)) ?_
    refine endL ?_
    try simp only [Act.put, sA, sB, sC]
    refine thenN (hK12 _ _ ?_)
    refine wp_cond_split (t := d) (by kernel_rfl) (fun h13 => ?_) (fun h13 => ?_)
    · skip
      have g13 : d = true := by simpa using h13
      refine wp_exit ?_
      refine thenE ?_
      refine blockO (by decide) ?_
      refine thenE ?_
      refine blockE ?_
      refine thenN (hK5 _ _ ?_)
      refine wp_seq_k fun K14 hK14 => ?_
      refine regionL ?_
      refine oM 44 (.int .i64 (n1)) ?_
      refine oM 45 (.slice Av got1.length cv) ?_
      refine oT 46 (.int .i64 ((got1.length : Int))) (by kernel_rfl) ?_
      refine oA 4 (.int .i64 (n1)) ?_
      refine oA 5 (.int .i64 ((got1.length : Int))) ?_
      refine endL ?_
      try simp only [Act.put, sA, sB, sC]
      refine thenN (hK14 _ _ ?_)
      refine wp_ret ?_
      have hR := hT.symm.trans (takes_done hF h13 _ _)
      exact bodyPost_ret (results_tmp2 rfl _ _ _) rfl ⟨by rw [hR]; rfl, hb⟩
    · skip
      have g13 : ¬ d = true := by simpa using h13
      refine wp_skip ?_
      refine thenN (hK11 _ _ ?_)
      refine wp_seq_k fun K15 hK15 => ?_
      refine regionL ?_
      refine oM 23 (.int .i64 (n1)) ?_
      refine oF 24 (fC3 b10_7) ?_
      refine oL 25 (ldI (rb10_7.at 3 (.int .i64 (c.t)))) ?_
      refine oJ 26 (.int .i64 (n1)) (.int .i64 (c.t)) (.int .i64 (n1 + c.t)) (egI _ _ _ _ _) (bAddI' n1 c.t (by have := hct h13; omega) (by have := hct h13; omega)) ?_
      refine oA 6 (.int .i64 (n1 + c.t)) ?_
      refine endL ?_
      try simp only [Act.put, sA, sB, sC]
      refine thenN (hK15 _ _ ?_)
      refine wp_seq_k fun K16 hK16 => ?_
      refine regionL ?_
      refine oA 11 (.int .u8 (0)) ?_
      refine endL ?_
      try simp only [Act.put, sA, sB, sC]
      refine thenN (hK16 _ _ ?_)
      refine wp_seq_k fun K17 hK17 => ?_
      refine wp_seq_k fun K18 hK18 => ?_
      refine regionL ?_
      refine oF 27 (fC0 b10_7) ?_
      refine oL 28 (ldI (rb10_7.at 0 (.int .i64 (c.kind)))) ?_
      refine oC (.bool (readsM c.kind)) (reads_any' _ _) ?_
      intro W19 hk
      have rb2_0 := rb2_0.below hk rb2_0.lt
      have rb10_7 := rb10_7.below hk rb10_7.lt
      have rb10_8 := rb10_8.below hk rb10_8.lt
      have own := own_below own hk
      have hb := hb.trans (hk.mono hb.size)
      have hB := hB.trans (hk.mono hB.size)
      refine oM 30 (.bool (readsM c.kind)) ?_
      rcases Bool.eq_false_or_eq_true (readsM c.kind) with h20 | h20
      · skip
        have g20 : readsM c.kind = true := by simpa using h20
        rewrite [h20]
        refine oT 31 (.slice A1 xs1.length c1) (heMove (.inl rfl) (by kernel_rfl) _) ?_
        refine oT 32 (.int .i64 ((xs1.length : Int))) (by kernel_rfl) ?_
        refine oT 33 (.bool (decide (0 < (xs1.length : Int)))) (heBin (V := .int .i64 ((xs1.length : Int))) (W := .int .i64 (0)) (R := .bool (decide (0 < (xs1.length : Int)))) rfl (by kernel_rfl) (by kernel_rfl) (egI _ _ _ _ _) (bGtI' ((xs1.length : Int)) 0) _) ?_
        refine oP 34 (.bool (decide (0 < (xs1.length : Int)))) true ?_
        refine endL ?_
        try simp only [Act.put, sA, sB, sC]
        refine thenN (hK18 _ _ ?_)
        refine wp_cond_split (t := decide (0 < (xs1.length : Int))) (by kernel_rfl) (fun h21 => ?_) (fun h21 => ?_)
        · skip
          have g21 : 0 < (xs1.length : Int) := by simpa using h21
          obtain ⟨x2, xs2, rfl⟩ : ∃ x xs, xs1 = x :: xs := by cases xs1 with | nil => simp at g21 | cons x xs => exact ⟨x, xs, rfl⟩
          obtain ⟨ad, hA1, had, hcell⟩ := hin1.at_ (k := 0) (by simp)
          subst hA1
          have hin2 : BytesIn w w.heap.size (if c1 = 1 then some ad else (some ad).map (·.add 1)) xs2 := hin1.drop (k := 1) (cap := c1) (by simp) hxc
          have hxl : 1 ≤ (x2 :: xs2).length := by simp
          refine held_start (fun w' => Below W19.heap.size W19 w') (by kernel_rfl) (fun w' h => h.drew) (Below.refl _ _) ?_
          intro W22 hE1
          refine heldTake (i := 0) 35 (.slice (some ad) (x2 :: xs2).length c1) (by kernel_rfl) rfl (by kernel_rfl) (by kernel_rfl) (by kernel_rfl) (fun _ _ _ h => h) (by kernel_rfl) (fun w hS => heMove (.inl rfl) (by kernel_rfl) _) hE1 ?_
          try simp only [Act.put, List.setIfInBounds_toArray, List.set_cons_zero, List.set_cons_succ]
          refine heldTake (i := 1) 36 (.pointer (some (ad.add 0))) (by kernel_rfl) rfl (by kernel_rfl) (by kernel_rfl) (by kernel_rfl) (fun _ _ _ h => h) (by kernel_rfl) (fun w hS => heIndex (V := .slice (some ad) (x2 :: xs2).length c1) (W := .int .i64 (0)) rfl (by kernel_rfl) (by kernel_rfl) (ix0 _ _ _ hxl _)) hE1 ?_
          try simp only [Act.put, List.setIfInBounds_toArray, List.set_cons_zero, List.set_cons_succ]
          refine heldTake (i := 2) 37 (.int .u8 (x2)) (by kernel_rfl) rfl (by kernel_rfl) (by kernel_rfl) (by kernel_rfl) (fun _ _ _ h => h) (by kernel_rfl) (fun w hS => heLoad rfl (by kernel_rfl) (ld8 ((hb.trans (hS.mono hb.size)).cell (p := ad.add 0) (by rw [add_block]; exact had) |>.trans hcell))) hE1 ?_
          try simp only [Act.put, List.setIfInBounds_toArray, List.set_cons_zero, List.set_cons_succ]
          refine heldTake (i := 3) 38 (.slice (some ad) (x2 :: xs2).length c1) (by kernel_rfl) rfl (by kernel_rfl) (by kernel_rfl) (by kernel_rfl) (fun _ _ _ h => h) (by kernel_rfl) (fun w hS => heMove (.inl rfl) (by kernel_rfl) _) hE1 ?_
          try simp only [Act.put, List.setIfInBounds_toArray, List.set_cons_zero, List.set_cons_succ]
          refine heldTake (i := 4) 39 (.slice (if c1 = 1 then some ad else (some ad).map (·.add 1)) xs2.length (c1 - 1)) (by kernel_rfl) rfl (by kernel_rfl) (by kernel_rfl) (by kernel_rfl) (fun _ _ _ h => h) (by kernel_rfl) (fun w hS => heSlice (V := .slice (some ad) (x2 :: xs2).length c1) rfl (by kernel_rfl) (by kernel_rfl) (by kernel_rfl) (by kernel_rfl) (slFrom1 _ _ _ hxl hxc _)) hE1 ?_
          try simp only [Act.put, List.setIfInBounds_toArray, List.set_cons_zero, List.set_cons_succ]
          refine heldTake (i := 5) 11 (.int .u8 (x2)) (by kernel_rfl) rfl (by kernel_rfl) (by kernel_rfl) (by kernel_rfl) (fun _ _ _ h => h) (by kernel_rfl) (fun w hS => heMove (.inr rfl) (by kernel_rfl) _) hE1 ?_
          try simp only [Act.put, List.setIfInBounds_toArray, List.set_cons_zero, List.set_cons_succ]
          refine heldTake (i := 6) 1 (.slice (if c1 = 1 then some ad else (some ad).map (·.add 1)) xs2.length (c1 - 1)) (by kernel_rfl) rfl (by kernel_rfl) (by kernel_rfl) (by kernel_rfl) (fun _ _ _ h => h) (by kernel_rfl) (fun w hS => heMove (.inr rfl) (by kernel_rfl) _) hE1 ?_
          try simp only [Act.put, List.setIfInBounds_toArray, List.set_cons_zero, List.set_cons_succ]
          refine wpAnyH_done (by kernel_rfl) ?_ _
          have rb2_0 := rb2_0.below hE1 rb2_0.lt
          have rb10_7 := rb10_7.below hE1 rb10_7.lt
          have rb10_8 := rb10_8.below hE1 rb10_8.lt
          have own := own_below own hE1
          have hb := hb.trans (hE1.mono hb.size)
          have hB := hB.trans (hE1.mono hB.size)
          try simp only [Act.put, sA, sB, sC]
          refine thenN (hK17 _ _ ?_)
          refine regionL <| oM 40 (.slice Av got1.length cv) <| oM 41 (.int .u8 (x2)) <| oV 42 1 #[.int .u8 (x2)] 5 #[(0, .int .u8 (x2))] (bs1 x2 _) ?_
          have hBa := hB.alloc hB.size (.cells #[.int .u8 (x2)] 5)
          refine oE (c := 1) W2 W2.heap.size [x2] hBa (Nat.le_refl _) hBa.size (own.alloc _) (byte_new W22 x2 _) (fun h => by cases h) (by simp; omega) ?_
          intro v2 w2 own2 hB2 hs2
          refine oA 7 v2 ?_
          refine endL ?_
          try simp only [Act.put, sA, sB, sC]
          refine blockN ?_
          have own3 : w2.ownsRow W2.heap.size 5 1 v2 (got1 ++ [x2]).length (bvs (got1 ++ [x2])) := by rw [List.length_append]; exact own2
          obtain ⟨A3, c3, hv3, -⟩ := own_slice own3
          subst hv3
          have hkt := hct h13
          have hb := hb0.trans (hB2.mono hb0.size)
          exact thenN ⟨⟨got1 ++ [x2], xs2, n1 + c.t, (if c1 = 1 then some ad else (some ad).map (·.add 1)), c1 - 1, .slice A3 (got1 ++ [x2]).length c3, pT b10_7 0, pT b10_8 0, .bool (d), .int .u8 (x2), .slice Av got1.length cv, .int .i64 ((got1.length : Int)), .bool (decide ((got1.length : Int) < 200)), .tuple #[cyV c, regsV s, .bool (d)], regsV g, .slice Av got1.length cv, .tuple #[cyV c, regsV s, .bool (d)], cyV c, regsV s, .bool (d), .bool (d), .int .i64 (n1), pT b10_7 3, .int .i64 (c.t), .int .i64 (n1 + c.t), pT b10_7 0, .int .i64 (c.kind), .bool (true), .bool (true), .slice (some ad) (x2 :: xs2).length c1, .int .i64 (((x2 :: xs2).length : Int)), .bool (decide (0 < ((x2 :: xs2).length : Int))), .bool (decide (0 < ((x2 :: xs2).length : Int))), .slice (some ad) (x2 :: xs2).length c1, .pointer (some (ad.add 0)), .int .u8 (x2), .slice (some ad) (x2 :: xs2).length c1, .slice (if c1 = 1 then some ad else (some ad).map (·.add 1)) xs2.length (c1 - 1), .slice Av got1.length cv, .int .u8 (x2), .slice (some ⟨W22.heap.size, 0, none⟩) 1 1, .slice A3 (got1 ++ [x2]).length c3, rfl, hB2, own3, hg8.append (byte_list hx8.head), (by rw [List.length_append, List.length_singleton]; omega), (by omega), (by rw [List.length_append, List.length_singleton]; omega), hx8.tail, hin2, (by simp at hxc ⊢; omega), (takes_read (rd := readsM) hF h13 h20 (by omega) (x2 :: xs2) n1).trans hT⟩, by simp [lenV]; omega⟩
        · skip
          have g21 : ¬ 0 < (xs1.length : Int) := by simpa using h21
          refine wp_skip ?_
          refine thenN (hK17 _ _ ?_)
          refine regionL <| oM 40 (.slice Av got1.length cv) <| oM 41 (.int .u8 (0)) <| oV 42 1 #[.int .u8 (0)] 5 #[(0, .int .u8 (0))] (bs1 0 _) ?_
          have hBa := hB.alloc hB.size (.cells #[.int .u8 (0)] 5)
          refine oE (c := 1) W2 W2.heap.size [0] hBa (Nat.le_refl _) hBa.size (own.alloc _) (byte_new W19 0 _) (fun h => by cases h) (by simp; omega) ?_
          intro v2 w2 own2 hB2 hs2
          refine oA 7 v2 ?_
          refine endL ?_
          try simp only [Act.put, sA, sB, sC]
          refine blockN ?_
          have own3 : w2.ownsRow W2.heap.size 5 1 v2 (got1 ++ [0]).length (bvs (got1 ++ [0])) := by rw [List.length_append]; exact own2
          obtain ⟨A3, c3, hv3, -⟩ := own_slice own3
          subst hv3
          have hkt := hct h13
          have hb := hb0.trans (hB2.mono hb0.size)
          obtain rfl : xs1 = [] := List.eq_nil_of_length_eq_zero (by omega)
          exact thenN ⟨⟨got1 ++ [0], [], n1 + c.t, _, _, .slice A3 (got1 ++ [0]).length c3, pT b10_7 0, pT b10_8 0, .bool (d), .int .u8 (0), .slice Av got1.length cv, .int .i64 ((got1.length : Int)), .bool (decide ((got1.length : Int) < 200)), .tuple #[cyV c, regsV s, .bool (d)], regsV g, .slice Av got1.length cv, .tuple #[cyV c, regsV s, .bool (d)], cyV c, regsV s, .bool (d), .bool (d), .int .i64 (n1), pT b10_7 3, .int .i64 (c.t), .int .i64 (n1 + c.t), pT b10_7 0, .int .i64 (c.kind), .bool (true), .bool (true), .slice A1 ([] : List Int).length c1, .int .i64 ((([] : List Int).length : Int)), .bool (decide (0 < (([] : List Int).length : Int))), .bool (decide (0 < (([] : List Int).length : Int))), y35, y36, y37, y38, y39, .slice Av got1.length cv, .int .u8 (0), .slice (some ⟨W19.heap.size, 0, none⟩) 1 1, .slice A3 (got1 ++ [0]).length c3, rfl, hB2, own3, hg8.append (byte_list B8.zero), (by rw [List.length_append, List.length_singleton]; omega), (by omega), (by rw [List.length_append, List.length_singleton]; omega), hx8, BytesIn.nil _ _ _, hxc, (takes_read (rd := readsM) hF h13 h20 (by omega) [] n1).trans hT⟩, by simp [lenV]; omega⟩
      · skip
        have g20 : ¬ readsM c.kind = true := by simpa using h20
        rewrite [h20]
        refine oZ 31 ?_
        refine oZ 32 ?_
        refine oZ 33 ?_
        refine oP 34 (.bool (false)) false ?_
        refine endL ?_
        try simp only [Act.put, sA, sB, sC]
        refine thenN (hK18 _ _ ?_)
        refine wp_cond_false (by kernel_rfl) ?_
        refine wp_skip ?_
        refine thenN (hK17 _ _ ?_)
        refine regionL <| oM 40 (.slice Av got1.length cv) <| oM 41 (.int .u8 (0)) <| oV 42 1 #[.int .u8 (0)] 5 #[(0, .int .u8 (0))] (bs1 0 _) ?_
        have hBa := hB.alloc hB.size (.cells #[.int .u8 (0)] 5)
        refine oE (c := 1) W2 W2.heap.size [0] hBa (Nat.le_refl _) hBa.size (own.alloc _) (byte_new W19 0 _) (fun h => by cases h) (by simp; omega) ?_
        intro v2 w2 own2 hB2 hs2
        refine oA 7 v2 ?_
        refine endL ?_
        try simp only [Act.put, sA, sB, sC]
        refine blockN ?_
        have own3 : w2.ownsRow W2.heap.size 5 1 v2 (got1 ++ [0]).length (bvs (got1 ++ [0])) := by rw [List.length_append]; exact own2
        obtain ⟨A3, c3, hv3, -⟩ := own_slice own3
        subst hv3
        have hkt := hct h13
        have hb := hb0.trans (hB2.mono hb0.size)
        exact thenN ⟨⟨got1 ++ [0], xs1, n1 + c.t, _, _, .slice A3 (got1 ++ [0]).length c3, pT b10_7 0, pT b10_8 0, .bool (d), .int .u8 (0), .slice Av got1.length cv, .int .i64 ((got1.length : Int)), .bool (decide ((got1.length : Int) < 200)), .tuple #[cyV c, regsV s, .bool (d)], regsV g, .slice Av got1.length cv, .tuple #[cyV c, regsV s, .bool (d)], cyV c, regsV s, .bool (d), .bool (d), .int .i64 (n1), pT b10_7 3, .int .i64 (c.t), .int .i64 (n1 + c.t), pT b10_7 0, .int .i64 (c.kind), .bool (false), .bool (false), undef, undef, undef, .bool (false), y35, y36, y37, y38, y39, .slice Av got1.length cv, .int .u8 (0), .slice (some ⟨W19.heap.size, 0, none⟩) 1 1, .slice A3 (got1 ++ [0]).length c3, rfl, hB2, own3, hg8.append (byte_list B8.zero), (by rw [List.length_append, List.length_singleton]; omega), (by omega), (by rw [List.length_append, List.length_singleton]; omega), hx8, hin1, hxc, (takes_none (rd := readsM) hF h13 h20 (by omega) xs1 n1).trans hT⟩, by simp [lenV]; omega⟩
  · skip
    have g8 : ¬ (got1.length : Int) < 200 := by simpa using h8
    refine wp_exit ?_
    refine thenE ?_
    refine thenE ?_
    refine blockE ?_
    refine thenN (hK5 _ _ ?_)
    refine wp_seq_k fun K23 hK23 => ?_
    refine regionL ?_
    refine oM 44 (.int .i64 (n1)) ?_
    refine oM 45 (.slice Av got1.length cv) ?_
    refine oT 46 (.int .i64 ((got1.length : Int))) (by kernel_rfl) ?_
    refine oA 4 (.int .i64 (n1)) ?_
    refine oA 5 (.int .i64 ((got1.length : Int))) ?_
    refine endL ?_
    try simp only [Act.put, sA, sB, sC]
    refine thenN (hK23 _ _ ?_)
    refine wp_ret ?_
    have hR := hT.symm.trans (takes_full (by omega) _ _)
    exact bodyPost_ret (results_tmp2 rfl _ _ _) rfl ⟨by rw [hR]; rfl, hb⟩
def ca0 : Cy := ⟨1, 5, 0, 4⟩
def ca1 : Cy := ⟨2, 6, 0, 3⟩
def ga2 : Rg := { zeroRg with af := 1792, pc := 7, r := 1 }
def ga3 : Rg := { g5 with af := 256 }
theorem g5_b : RgB g5 := by constructor <;> first | exact ⟨by decide, by decide⟩ | decide
theorem b62 : Bytes8 [62] := fun x hx => by cases List.mem_singleton.1 hx; exact ⟨by decide, by decide⟩
theorem b627 : Bytes8 [62, 7] := fun x hx => by
  simp only [List.mem_cons, List.not_mem_nil, or_false] at hx
  rcases hx with rfl | rfl <;> exact ⟨by decide, by decide⟩
theorem bytes_row {w : World} {b : Nat} {t : TypeId} {cs : Array Value} {xs : List Int} (h : Row w b t cs) (e : ∀ j : Nat, ∀ x, xs[j]? = some x → cs[j]? = some (.int .u8 x)) : BytesIn w w.heap.size (some ⟨b, 0, none⟩) xs := fun j x hx =>
  ⟨_, rfl, h.lt, by
    have k := (h.cell j).trans (e j x hx)
    rw [show (⟨b, 0, none⟩ : Addr).add j = ⟨b, j, none⟩ by simp [Addr.add]; omega]
    exact k⟩
theorem row_1 {w : World} {b : Nat} {t : TypeId} {x : Int} (h : Row w b t #[.int .u8 x]) : BytesIn w w.heap.size (some ⟨b, 0, none⟩) [x] := bytes_row h fun j y hy => by
  cases j with
  | zero => cases hy; rfl
  | succ j => cases hy
theorem row_2 {w : World} {b : Nat} {t : TypeId} {x y : Int} (h : Row w b t #[.int .u8 x, .int .u8 y]) : BytesIn w w.heap.size (some ⟨b, 0, none⟩) [x, y] := bytes_row h fun j z hz => by
  rcases j with _ | _ | j
  · cases hz; rfl
  · cases hz; rfl
  · cases hz
theorem awake_0 (w : World) (ht : Tabs w w.heap.size) : Calls Tryz.prog 12 #[regsV g5, .slice none 0 0] w fun e w' => e = .returned (.tuple #[cyV ca0, regsV zeroRg, .bool false]) ∧ Below w.heap.size w w' := by
  have h := nnext_any g5 g5_b none 0 [] (Nat.le_refl _) (fun x h => by cases h) w (BytesIn.nil _ _ _) ht
  rw [tellV_eq, ex_0] at h
  exact h
theorem awake_1 (w : World) (ht : Tabs w w.heap.size) {b : Nat} {t : TypeId} (hr : Row w b t #[.int .u8 62]) : Calls Tryz.prog 12 #[regsV g5, .slice (some ⟨b, 0, none⟩) 1 1] w fun e w' => e = .returned (.tuple #[cyV ca1, regsV zeroRg, .bool false]) ∧ Below w.heap.size w w' := by
  have h := nnext_any g5 g5_b (some ⟨b, 0, none⟩) 1 [62] (Nat.le_refl _) b62 w (row_1 hr) ht
  rw [tellV_eq, ex_1] at h
  exact h
theorem awake_2 (w : World) (ht : Tabs w w.heap.size) {b : Nat} {t : TypeId} (hr : Row w b t #[.int .u8 62, .int .u8 7]) : Calls Tryz.prog 12 #[regsV g5, .slice (some ⟨b, 0, none⟩) 2 2] w fun e w' => e = .returned (.tuple #[cyV zeroCy, regsV ga2, .bool true]) ∧ Below w.heap.size w w' := by
  have h := nnext_any g5 g5_b (some ⟨b, 0, none⟩) 2 [62, 7] (Nat.le_refl _) b627 w (row_2 hr) ht
  rw [tellV_eq, ex_2.1, ex_2.2, show cyOf (nextOf g5 [62, 7]) = zeroCy by rfl] at h
  exact h
theorem awake_3 (w : World) (ht : Tabs w w.heap.size) : Calls Tryz.prog 14 #[regsV g5, .int .u8 60, .slice none 0 0] w fun e w' => e = .returned (.tuple #[cyV zeroCy, regsV ga3, .bool true]) ∧ Below w.heap.size w w' := by
  have h := nafter_any g5 g5_b 60 ⟨by decide, by decide⟩ none 0 [] (Nat.le_refl _) (fun x h => by cases h) w (BytesIn.nil _ _ _) ht
  rw [tellV_eq, ex_3.1, show cyOf (afterOf g5 60 []) = zeroCy by rfl, show rgOf (afterOf g5 60 []) = ga3 by rfl] at h
  exact h
theorem awake_4 (w : World) (ht : Tabs w w.heap.size) {b : Nat} {t : TypeId} (hr : Row w b t #[.int .u8 62, .int .u8 7]) : Calls Tryz.prog 16 #[regsV g5, .slice (some ⟨b, 0, none⟩) 2 2] w fun e w' => e = .returned (.tuple #[.int .i64 7, .int .i64 2]) ∧ Below w.heap.size w w' := by
  have h := ntakes_any g5 g5_b (some ⟨b, 0, none⟩) 2 [62, 7] (Nat.le_refl _) b627 w (row_2 hr) ht
  rw [ex_4.1, ex_4.2] at h
  exact h
set_option maxRecDepth 20000 in
set_option maxHeartbeats 16000000 in
theorem awake12_any (w : World) (ht : Tabs w w.heap.size) :
    Calls Tryz.prog 11 #[] w fun e w' => e = .returned (.bool true) ∧ Below w.heap.size w w' := by
  have hb := Below.refl w.heap.size w
  go_enter Tryz.func11, Tryz.ntmps11
  refine wp_seq_k fun K1 hK1 => ?_
  refine regionL ?_
  refine oA 0 (.bool (false)) ?_
  refine endL ?_
  try simp only [Act.put, sA, sB, sC]
  refine thenN (hK1 _ _ ?_)
  refine wp_seq_k fun K2 hK2 => ?_
  refine region_row [(some 16, .val (regsV g5)), (some 1, .box 24 (regsC zeroRg) (some (2, regsC g5)) none), (none, .put 1)] (by kernel_rfl) ⟨fun p l a w I hd => heBuild (cells := regsC g5) rfl (by kernel_rfl) w, ⟨fun k vs e => (by cases e; rfl), fun p l a w I hd => heAlloc rfl (allocRg w)⟩, fun p l a w I hd d t z s vs hj hr => (by cases hj; exact heStore rfl (by kernel_rfl) (by kernel_rfl) (stRow hr)), trivial⟩ ?_
  intro p3 W3 hE
  have hb := hb.trans (hE.1.mono hb.size)
  have rb3_1 : Row W3 (p3 1) 24 (regsC g5) := (hE.2.1 1 _ _ _ _ _ rfl).2
  clear hE
  try simp only [litA, layL, Pl.value, sA, sB, sC]
  generalize p3 1 = b3_1 at *
  refine thenN (hK2 _ _ ?_)
  refine wp_seq_k fun K4 hK4 => ?_
  refine region_row [(some 18, .val (regsV g5)), (some 19, .call (.tuple #[cyV ca0, regsV zeroRg, .bool (false)])), (some 17, .val (.tuple #[cyV ca0, regsV zeroRg, .bool (false)])), (some 20, .val (cyV ca0)), (some 21, .val (regsV zeroRg)), (some 22, .val (.bool (false))), (some 2, .box 28 (cyC zeroCy) (some (8, cyC ca0)) none), (some 3, .box 24 (regsC zeroRg) (some (9, regsC zeroRg)) none), (none, .put 6), (none, .put 7), (some 4, .val (.bool (false)))] (by kernel_rfl) ⟨fun p l a w I hd => heLoad rfl (by kernel_rfl) (ldR (rb3_1.below I.below rb3_1.lt).range), fun p l a w I hd => ⟨_, _, (by kernel_rfl), awake_0 w (ht.below (hb.trans (I.below.mono hb.size)))⟩, fun p l a w I hd => heMove (.inl rfl) (by kernel_rfl) w, fun p l a w I hd => heExtract (vs := #[cyV ca0, regsV zeroRg, .bool (false)]) rfl (by kernel_rfl) (by kernel_rfl) w, fun p l a w I hd => heExtract (vs := #[cyV ca0, regsV zeroRg, .bool (false)]) rfl (by kernel_rfl) (by kernel_rfl) w, fun p l a w I hd => heExtract (vs := #[cyV ca0, regsV zeroRg, .bool (false)]) rfl (by kernel_rfl) (by kernel_rfl) w, ⟨fun k vs e => (by cases e; rfl), fun p l a w I hd => heAlloc rfl (allocCy w)⟩, ⟨fun k vs e => (by cases e; rfl), fun p l a w I hd => heAlloc rfl (allocRg w)⟩, fun p l a w I hd d t z s vs hj hr => (by cases hj; exact heStore rfl (by kernel_rfl) (by kernel_rfl) (stCy hr)), fun p l a w I hd d t z s vs hj hr => (by cases hj; exact heStore rfl (by kernel_rfl) (by kernel_rfl) (stRow hr)), fun p l a w I hd => heMove (.inr rfl) (by kernel_rfl) w, trivial⟩ ?_
  intro p5 W5 hE
  have rb3_1 := rb3_1.below hE.1 rb3_1.lt
  have hb := hb.trans (hE.1.mono hb.size)
  have rb5_6 : Row W5 (p5 6) 28 (cyC ca0) := (hE.2.1 6 _ _ _ _ _ rfl).2
  have rb5_7 : Row W5 (p5 7) 24 (regsC zeroRg) := (hE.2.1 7 _ _ _ _ _ rfl).2
  clear hE
  try simp only [litA, layL, Pl.value, sA, sB, sC]
  generalize p5 6 = b5_6 at *
  generalize p5 7 = b5_7 at *
  refine thenN (hK4 _ _ ?_)
  refine wp_seq_k fun K6 hK6 => ?_
  refine region_row [(some 24, .val (regsV g5)), (some 25, .box 5 #[.int .u8 (62)] none (some 1)), (some 26, .call (.tuple #[cyV ca1, regsV zeroRg, .bool (false)])), (some 23, .val (.tuple #[cyV ca1, regsV zeroRg, .bool (false)])), (some 27, .val (cyV ca1)), (some 28, .val (regsV zeroRg)), (some 29, .val (.bool (false))), (some 5, .box 28 (cyC zeroCy) (some (9, cyC ca1)) none), (some 6, .box 24 (regsC zeroRg) (some (10, regsC zeroRg)) none), (none, .put 7), (none, .put 8), (some 7, .val (.bool (false)))] (by kernel_rfl) ⟨fun p l a w I hd => heLoad rfl (by kernel_rfl) (ldR (rb3_1.below I.below rb3_1.lt).range), ⟨fun k vs e => (by cases e), fun p l a w I hd => heBS (ps := #[(0, .int .u8 (62))]) rfl (by kernel_rfl) (bs1 62 w)⟩, fun p l a w I hd => ⟨_, _, (by kernel_rfl), awake_1 w (ht.below (hb.trans (I.below.mono hb.size))) (I.boxed 1 _ _ _ _ _ rfl (hd 1 (by kernel_rfl))).2⟩, fun p l a w I hd => heMove (.inl rfl) (by kernel_rfl) w, fun p l a w I hd => heExtract (vs := #[cyV ca1, regsV zeroRg, .bool (false)]) rfl (by kernel_rfl) (by kernel_rfl) w, fun p l a w I hd => heExtract (vs := #[cyV ca1, regsV zeroRg, .bool (false)]) rfl (by kernel_rfl) (by kernel_rfl) w, fun p l a w I hd => heExtract (vs := #[cyV ca1, regsV zeroRg, .bool (false)]) rfl (by kernel_rfl) (by kernel_rfl) w, ⟨fun k vs e => (by cases e; rfl), fun p l a w I hd => heAlloc rfl (allocCy w)⟩, ⟨fun k vs e => (by cases e; rfl), fun p l a w I hd => heAlloc rfl (allocRg w)⟩, fun p l a w I hd d t z s vs hj hr => (by cases hj; exact heStore rfl (by kernel_rfl) (by kernel_rfl) (stCy hr)), fun p l a w I hd d t z s vs hj hr => (by cases hj; exact heStore rfl (by kernel_rfl) (by kernel_rfl) (stRow hr)), fun p l a w I hd => heMove (.inr rfl) (by kernel_rfl) w, trivial⟩ ?_
  intro p7 W7 hE
  have rb3_1 := rb3_1.below hE.1 rb3_1.lt
  have rb5_6 := rb5_6.below hE.1 rb5_6.lt
  have rb5_7 := rb5_7.below hE.1 rb5_7.lt
  have hb := hb.trans (hE.1.mono hb.size)
  have rb7_1 : Row W7 (p7 1) 5 (#[.int .u8 (62)]) := (hE.2.1 1 _ _ _ _ _ rfl).2
  have rb7_7 : Row W7 (p7 7) 28 (cyC ca1) := (hE.2.1 7 _ _ _ _ _ rfl).2
  have rb7_8 : Row W7 (p7 8) 24 (regsC zeroRg) := (hE.2.1 8 _ _ _ _ _ rfl).2
  clear hE
  try simp only [litA, layL, Pl.value, sA, sB, sC]
  generalize p7 1 = b7_1 at *
  generalize p7 7 = b7_7 at *
  generalize p7 8 = b7_8 at *
  refine thenN (hK6 _ _ ?_)
  refine wp_seq_k fun K8 hK8 => ?_
  refine region_row [(some 31, .val (regsV g5)), (some 32, .box 5 #[.int .u8 (62), .int .u8 (7)] none (some 2)), (some 33, .call (.tuple #[cyV zeroCy, regsV ga2, .bool (true)])), (some 30, .val (.tuple #[cyV zeroCy, regsV ga2, .bool (true)])), (some 34, .val (cyV zeroCy)), (some 35, .val (regsV ga2)), (some 36, .val (.bool (true))), (some 8, .box 28 (cyC zeroCy) (some (9, cyC zeroCy)) none), (some 9, .box 24 (regsC zeroRg) (some (10, regsC ga2)) none), (none, .put 7), (none, .put 8), (some 10, .val (.bool (true)))] (by kernel_rfl) ⟨fun p l a w I hd => heLoad rfl (by kernel_rfl) (ldR (rb3_1.below I.below rb3_1.lt).range), ⟨fun k vs e => (by cases e), fun p l a w I hd => heBS (ps := #[(0, .int .u8 (62)), (1, .int .u8 (7))]) rfl (by kernel_rfl) (bs2 62 7 w)⟩, fun p l a w I hd => ⟨_, _, (by kernel_rfl), awake_2 w (ht.below (hb.trans (I.below.mono hb.size))) (I.boxed 1 _ _ _ _ _ rfl (hd 1 (by kernel_rfl))).2⟩, fun p l a w I hd => heMove (.inl rfl) (by kernel_rfl) w, fun p l a w I hd => heExtract (vs := #[cyV zeroCy, regsV ga2, .bool (true)]) rfl (by kernel_rfl) (by kernel_rfl) w, fun p l a w I hd => heExtract (vs := #[cyV zeroCy, regsV ga2, .bool (true)]) rfl (by kernel_rfl) (by kernel_rfl) w, fun p l a w I hd => heExtract (vs := #[cyV zeroCy, regsV ga2, .bool (true)]) rfl (by kernel_rfl) (by kernel_rfl) w, ⟨fun k vs e => (by cases e; rfl), fun p l a w I hd => heAlloc rfl (allocCy w)⟩, ⟨fun k vs e => (by cases e; rfl), fun p l a w I hd => heAlloc rfl (allocRg w)⟩, fun p l a w I hd d t z s vs hj hr => (by cases hj; exact heStore rfl (by kernel_rfl) (by kernel_rfl) (stCy hr)), fun p l a w I hd d t z s vs hj hr => (by cases hj; exact heStore rfl (by kernel_rfl) (by kernel_rfl) (stRow hr)), fun p l a w I hd => heMove (.inr rfl) (by kernel_rfl) w, trivial⟩ ?_
  intro p9 W9 hE
  have rb3_1 := rb3_1.below hE.1 rb3_1.lt
  have rb5_6 := rb5_6.below hE.1 rb5_6.lt
  have rb5_7 := rb5_7.below hE.1 rb5_7.lt
  have rb7_1 := rb7_1.below hE.1 rb7_1.lt
  have rb7_7 := rb7_7.below hE.1 rb7_7.lt
  have rb7_8 := rb7_8.below hE.1 rb7_8.lt
  have hb := hb.trans (hE.1.mono hb.size)
  have rb9_1 : Row W9 (p9 1) 5 (#[.int .u8 (62), .int .u8 (7)]) := (hE.2.1 1 _ _ _ _ _ rfl).2
  have rb9_7 : Row W9 (p9 7) 28 (cyC zeroCy) := (hE.2.1 7 _ _ _ _ _ rfl).2
  have rb9_8 : Row W9 (p9 8) 24 (regsC ga2) := (hE.2.1 8 _ _ _ _ _ rfl).2
  clear hE
  try simp only [litA, layL, Pl.value, sA, sB, sC]
  generalize p9 1 = b9_1 at *
  generalize p9 7 = b9_7 at *
  generalize p9 8 = b9_8 at *
  refine thenN (hK8 _ _ ?_)
  refine wp_seq_k fun K10 hK10 => ?_
  refine region_row [(some 38, .val (regsV g5)), (some 39, .call (.tuple #[cyV zeroCy, regsV ga3, .bool (true)])), (some 37, .val (.tuple #[cyV zeroCy, regsV ga3, .bool (true)])), (some 40, .val (cyV zeroCy)), (some 41, .val (regsV ga3)), (some 42, .val (.bool (true))), (some 11, .box 28 (cyC zeroCy) (some (8, cyC zeroCy)) none), (some 12, .box 24 (regsC zeroRg) (some (9, regsC ga3)) none), (none, .put 6), (none, .put 7), (some 13, .val (.bool (true)))] (by kernel_rfl) ⟨fun p l a w I hd => heLoad rfl (by kernel_rfl) (ldR (rb3_1.below I.below rb3_1.lt).range), fun p l a w I hd => ⟨_, _, (by kernel_rfl), awake_3 w (ht.below (hb.trans (I.below.mono hb.size)))⟩, fun p l a w I hd => heMove (.inl rfl) (by kernel_rfl) w, fun p l a w I hd => heExtract (vs := #[cyV zeroCy, regsV ga3, .bool (true)]) rfl (by kernel_rfl) (by kernel_rfl) w, fun p l a w I hd => heExtract (vs := #[cyV zeroCy, regsV ga3, .bool (true)]) rfl (by kernel_rfl) (by kernel_rfl) w, fun p l a w I hd => heExtract (vs := #[cyV zeroCy, regsV ga3, .bool (true)]) rfl (by kernel_rfl) (by kernel_rfl) w, ⟨fun k vs e => (by cases e; rfl), fun p l a w I hd => heAlloc rfl (allocCy w)⟩, ⟨fun k vs e => (by cases e; rfl), fun p l a w I hd => heAlloc rfl (allocRg w)⟩, fun p l a w I hd d t z s vs hj hr => (by cases hj; exact heStore rfl (by kernel_rfl) (by kernel_rfl) (stCy hr)), fun p l a w I hd d t z s vs hj hr => (by cases hj; exact heStore rfl (by kernel_rfl) (by kernel_rfl) (stRow hr)), fun p l a w I hd => heMove (.inr rfl) (by kernel_rfl) w, trivial⟩ ?_
  intro p11 W11 hE
  have rb3_1 := rb3_1.below hE.1 rb3_1.lt
  have rb5_6 := rb5_6.below hE.1 rb5_6.lt
  have rb5_7 := rb5_7.below hE.1 rb5_7.lt
  have rb7_1 := rb7_1.below hE.1 rb7_1.lt
  have rb7_7 := rb7_7.below hE.1 rb7_7.lt
  have rb7_8 := rb7_8.below hE.1 rb7_8.lt
  have rb9_1 := rb9_1.below hE.1 rb9_1.lt
  have rb9_7 := rb9_7.below hE.1 rb9_7.lt
  have rb9_8 := rb9_8.below hE.1 rb9_8.lt
  have hb := hb.trans (hE.1.mono hb.size)
  have rb11_6 : Row W11 (p11 6) 28 (cyC zeroCy) := (hE.2.1 6 _ _ _ _ _ rfl).2
  have rb11_7 : Row W11 (p11 7) 24 (regsC ga3) := (hE.2.1 7 _ _ _ _ _ rfl).2
  clear hE
  try simp only [litA, layL, Pl.value, sA, sB, sC]
  generalize p11 6 = b11_6 at *
  generalize p11 7 = b11_7 at *
  refine thenN (hK10 _ _ ?_)
  refine wp_seq_k fun K12 hK12 => ?_
  refine region_row [(some 44, .val (regsV g5)), (some 45, .box 5 #[.int .u8 (62), .int .u8 (7)] none (some 2)), (some 46, .call (.tuple #[.int .i64 (7), .int .i64 (2)])), (some 43, .val (.tuple #[.int .i64 (7), .int .i64 (2)])), (some 47, .val (.int .i64 (7))), (some 48, .val (.int .i64 (2))), (some 14, .val (.int .i64 (7))), (some 15, .val (.int .i64 (2)))] (by kernel_rfl) ⟨fun p l a w I hd => heLoad rfl (by kernel_rfl) (ldR (rb3_1.below I.below rb3_1.lt).range), ⟨fun k vs e => (by cases e), fun p l a w I hd => heBS (ps := #[(0, .int .u8 (62)), (1, .int .u8 (7))]) rfl (by kernel_rfl) (bs2 62 7 w)⟩, fun p l a w I hd => ⟨_, _, (by kernel_rfl), awake_4 w (ht.below (hb.trans (I.below.mono hb.size))) (I.boxed 1 _ _ _ _ _ rfl (hd 1 (by kernel_rfl))).2⟩, fun p l a w I hd => heMove (.inl rfl) (by kernel_rfl) w, fun p l a w I hd => heExtract (vs := #[.int .i64 (7), .int .i64 (2)]) rfl (by kernel_rfl) (by kernel_rfl) w, fun p l a w I hd => heExtract (vs := #[.int .i64 (7), .int .i64 (2)]) rfl (by kernel_rfl) (by kernel_rfl) w, fun p l a w I hd => heMove (.inr rfl) (by kernel_rfl) w, fun p l a w I hd => heMove (.inr rfl) (by kernel_rfl) w, trivial⟩ ?_
  intro p13 W13 hE
  have rb3_1 := rb3_1.below hE.1 rb3_1.lt
  have rb5_6 := rb5_6.below hE.1 rb5_6.lt
  have rb5_7 := rb5_7.below hE.1 rb5_7.lt
  have rb7_1 := rb7_1.below hE.1 rb7_1.lt
  have rb7_7 := rb7_7.below hE.1 rb7_7.lt
  have rb7_8 := rb7_8.below hE.1 rb7_8.lt
  have rb9_1 := rb9_1.below hE.1 rb9_1.lt
  have rb9_7 := rb9_7.below hE.1 rb9_7.lt
  have rb9_8 := rb9_8.below hE.1 rb9_8.lt
  have rb11_6 := rb11_6.below hE.1 rb11_6.lt
  have rb11_7 := rb11_7.below hE.1 rb11_7.lt
  have hb := hb.trans (hE.1.mono hb.size)
  have rb13_1 : Row W13 (p13 1) 5 (#[.int .u8 (62), .int .u8 (7)]) := (hE.2.1 1 _ _ _ _ _ rfl).2
  clear hE
  try simp only [litA, layL, Pl.value, sA, sB, sC]
  generalize p13 1 = b13_1 at *
  refine thenN (hK12 _ _ ?_)
  refine wp_seq_k fun K14 hK14 => ?_
  refine regionL ?_
  refine oM 49 (.bool (false)) ?_
  refine oW 50 (.bool (false)) (.bool (true)) (fun _ => rfl) ?_
  refine oM 51 (.bool (true)) ?_
  refine oT 52 (cyV ca0) (heLoad rfl (by kernel_rfl) (ldCy rb5_6)) ?_
  refine oT 53 (cyV ca0) (heBuild (cells := cyC ca0) rfl (by kernel_rfl) _) ?_
  refine oT 54 (.bool (true)) (heBin (V := cyV ca0) (W := cyV ca0) (R := .bool (true)) rfl (by kernel_rfl) (by kernel_rfl) (cy_guard _ _ _ _ _) (cy_eql _) _) ?_
  refine oP 55 (.bool (true)) true ?_
  refine oM 56 (.bool (true)) ?_
  refine oT 57 (.bool (false)) (heMove (.inl rfl) (by kernel_rfl) _) ?_
  refine oT 58 (.bool (true)) (heUn (V := .bool (false)) (R := .bool (true)) rfl (by kernel_rfl) (fun _ => rfl) _) ?_
  refine oP 59 (.bool (true)) true ?_
  refine oM 60 (.bool (true)) ?_
  refine oT 61 (cyV ca1) (heLoad rfl (by kernel_rfl) (ldCy rb7_7)) ?_
  refine oT 62 (cyV ca1) (heBuild (cells := cyC ca1) rfl (by kernel_rfl) _) ?_
  refine oT 63 (.bool (true)) (heBin (V := cyV ca1) (W := cyV ca1) (R := .bool (true)) rfl (by kernel_rfl) (by kernel_rfl) (cy_guard _ _ _ _ _) (cy_eql _) _) ?_
  refine oP 64 (.bool (true)) true ?_
  refine oM 65 (.bool (true)) ?_
  refine oT 66 (.bool (true)) (heMove (.inl rfl) (by kernel_rfl) _) ?_
  refine oP 67 (.bool (true)) true ?_
  refine oM 68 (.bool (true)) ?_
  refine oT 69 (regsV ga2) (heLoad rfl (by kernel_rfl) (ldR rb9_8.range)) ?_
  refine oT 70 (regsV ga2) (heBuild (cells := regsC ga2) rfl (by kernel_rfl) _) ?_
  refine oT 71 (.bool (true)) (heBin (V := regsV ga2) (W := regsV ga2) (R := .bool (true)) rfl (by kernel_rfl) (by kernel_rfl) (regs_guard _ _ _ _ _) (regs_eql _) _) ?_
  refine oP 72 (.bool (true)) true ?_
  refine oM 73 (.bool (true)) ?_
  refine oT 74 (.bool (true)) (heMove (.inl rfl) (by kernel_rfl) _) ?_
  refine oP 75 (.bool (true)) true ?_
  refine oM 76 (.bool (true)) ?_
  refine oT 77 (pT b11_7 0) (heField (V := pT b11_7 0) (R := pT b11_7 0) rfl (by kernel_rfl) (fR0 b11_7) _) ?_
  refine oT 78 (.int .u16 (ga3.af)) (heLoad rfl (by kernel_rfl) (ld16 (rb11_7.at 0 (.int .u16 (ga3.af))))) ?_
  refine oT 79 (.bool (true)) (heBin (V := .int .u16 (ga3.af)) (W := .int .u16 (256)) (R := .bool (true)) rfl (by kernel_rfl) (by kernel_rfl) (eg16 _ _ _ _ _) (bEq16 ga3.af 256) _) ?_
  refine oP 80 (.bool (true)) true ?_
  refine oM 81 (.bool (true)) ?_
  refine oT 82 (.int .i64 (7)) (heMove (.inl rfl) (by kernel_rfl) _) ?_
  refine oT 83 (.bool (true)) (heBin (V := .int .i64 (7)) (W := .int .i64 (7)) (R := .bool (true)) rfl (by kernel_rfl) (by kernel_rfl) (egI _ _ _ _ _) (bEqI 7 7) _) ?_
  refine oP 84 (.bool (true)) true ?_
  refine oM 85 (.bool (true)) ?_
  refine oT 86 (.int .i64 (2)) (heMove (.inl rfl) (by kernel_rfl) _) ?_
  refine oT 87 (.bool (true)) (heBin (V := .int .i64 (2)) (W := .int .i64 (2)) (R := .bool (true)) rfl (by kernel_rfl) (by kernel_rfl) (egI _ _ _ _ _) (bEqI 2 2) _) ?_
  refine oP 88 (.bool (true)) true ?_
  refine oA 0 (.bool (true)) ?_
  refine endL ?_
  try simp only [Act.put, sA, sB, sC]
  refine thenN (hK14 _ _ ?_)
  refine wp_ret ?_
  exact bodyPost_ret (results_tmp rfl _ _ _) rfl ⟨rfl, hb⟩
section
open Go.ChangeShapes Go.WideShapes Go.ChangeAt Go.RowKit
theorem open_bytes {H : Type} {enc : TypeId × Value → H} {P : Program} {w : World} {r : Reach} {b0 base : Nat} {sp : Nat → Bool} {held : Bool} {t e : TypeId} {v : Value} {d : DataW H} {ps : List MemPlace}
    (ht : P.underlying t = some (.slice e)) (he : P.underlying e = some (.int .u8)) (hc : P.cellsOf e = 1) (hv : Value.okWide P w r b0 t v) (h : DataW.Trod enc P w base sp held t v d ps) :
    ∃ (A : Option Addr) (cap : Nat) (xs : List Int), v = .slice A xs.length cap ∧ xs.length ≤ cap ∧ cap ≤ maxLen ∧ Bytes8 xs ∧ BytesIn w w.heap.size A xs ∧ (A = none → cap = 0) := by
  obtain ⟨a, len, cap, rfl⟩ := okWide_slice ht hv
  obtain ⟨fuel, hf⟩ := h
  rcases open_ints ht he hc hf with ⟨e1, -⟩ | ⟨ad, len', cap', zs, e1, hb, hle, hm, hz, -, hcell, hwf⟩
  · have e1' : (Value.slice a len cap).cells.toList = [.slice none 0 0] := e1
    have e2 : Value.slice a len cap = .slice none 0 0 := by simpa [Value.cells] using e1'
    refine ⟨none, 0, [], e2, Nat.le_refl _, Nat.zero_le _, fun x hx => by simp at hx, BytesIn.nil _ _ _, fun _ => rfl⟩
  · have e1' : (Value.slice a len cap).cells.toList = [.slice (some ad) len' cap'] := e1
    have e2 : Value.slice a len cap = .slice (some ad) len' cap' := by simpa [Value.cells] using e1'
    have hzl : len' ≤ zs.length := by rw [hz]; split <;> omega
    have htl : (zs.take len').length = len' := by rw [List.length_take]; omega
    refine ⟨some ad, cap', zs.take len', by rw [htl]; exact e2, by omega, hm, fun x hx => ?_, fun j x hx => ?_, fun h => by cases h⟩
    · have hw := hwf x (List.mem_of_mem_take hx)
      have := bounds_u8 hw
      exact ⟨by omega, by omega⟩
    · rw [List.getElem?_take] at hx
      split at hx
      · rename_i hj
        have hj2 : j < zs.length := by omega
        have hce := hcell j hj2
        rw [List.getD_eq_getElem?_getD, hx] at hce
        refine ⟨ad, rfl, ?_, hce⟩
        have := World.block_lt_of_cell? _ _ hce
        rw [add_block] at this
        exact this
      · cases hx
end
section
open Go.ChangeShapes Go.WideShapes Go.ChangeAt Go.RowKit Go.Deep
theorem list20 {α : Type} (l : List α) (h : l.length = 20) : ∃ a0 a1 a2 a3 a4 a5 a6 a7 a8 a9 a10 a11 a12 a13 a14 a15 a16 a17 a18 a19, l = [a0, a1, a2, a3, a4, a5, a6, a7, a8, a9, a10, a11, a12, a13, a14, a15, a16, a17, a18, a19] := by
  match l, h with
  | [a0, a1, a2, a3, a4, a5, a6, a7, a8, a9, a10, a11, a12, a13, a14, a15, a16, a17, a18, a19], _ => exact ⟨a0, a1, a2, a3, a4, a5, a6, a7, a8, a9, a10, a11, a12, a13, a14, a15, a16, a17, a18, a19, rfl⟩
set_option maxRecDepth 20000 in
theorem open_regs {H : Type} {enc : TypeId × Value → H} {P : Program} {w : World} {r : Reach} {b0 base : Nat} {sp : Nat → Bool} {held : Bool} {t : TypeId} {f0 f1 f2 f3 f4 f5 f6 f7 f8 f9 f10 f11 f12 f13 f14 f15 f16 f17 f18 f19 : Field} {v : Value} {d : DataW H} {ps : List MemPlace}
    (hs : P.underlying t = some (.struct #[f0, f1, f2, f3, f4, f5, f6, f7, f8, f9, f10, f11, f12, f13, f14, f15, f16, f17, f18, f19])) (hone : oneCellFields P #[f0, f1, f2, f3, f4, f5, f6, f7, f8, f9, f10, f11, f12, f13, f14, f15, f16, f17, f18, f19] = true) (hC : P.cellsOf t = 20)
    (u0 : P.underlying f0.type = some (.int .u16)) (u1 : P.underlying f1.type = some (.int .u16)) (u2 : P.underlying f2.type = some (.int .u16)) (u3 : P.underlying f3.type = some (.int .u16)) (u4 : P.underlying f4.type = some (.int .u16)) (u5 : P.underlying f5.type = some (.int .u16)) (u6 : P.underlying f6.type = some (.int .u16)) (u7 : P.underlying f7.type = some (.int .u16)) (u8 : P.underlying f8.type = some (.int .u16)) (u9 : P.underlying f9.type = some (.int .u16)) (u10 : P.underlying f10.type = some (.int .u16)) (u11 : P.underlying f11.type = some (.int .u16)) (u12 : P.underlying f12.type = some (.int .u16)) (u13 : P.underlying f13.type = some (.int .u8)) (u14 : P.underlying f14.type = some (.int .u8)) (u15 : P.underlying f15.type = some .bool) (u16 : P.underlying f16.type = some .bool) (u17 : P.underlying f17.type = some .bool) (u18 : P.underlying f18.type = some .bool) (u19 : P.underlying f19.type = some (.int .i64))
    (hv : Value.okWide P w r b0 t v) (h : DataW.Trod enc P w base sp held t v d ps) : ∃ g : Rg, v = regsV g ∧ RgB g := by
  obtain ⟨cs, rfl, hsz⟩ := okWide_struct hs hv
  obtain ⟨fuel, hf⟩ := h
  obtain ⟨xs, n, -, -, -, hlen, hg⟩ := DataW.trod_struct hs hf
  rw [hC] at hsz
  have hlen : xs.length = 20 := hlen
  have cell : ∀ (k : Nat) (f : Field), #[f0, f1, f2, f3, f4, f5, f6, f7, f8, f9, f10, f11, f12, f13, f14, f15, f16, f17, f18, f19][k]? = some f → ∃ u z, cs[k]? = some u ∧ DataW.trod enc P w base sp held n f.type [u] = some z := by
    intro k f hk
    obtain ⟨ho, h1⟩ := hone_of hone k f hk
    have hkl : k < 20 := (Array.getElem?_eq_some_iff.1 hk).1
    have h2 := hg k f hk
    rw [ho, h1] at h2
    have e1 : ((Value.agg cs).cells.toList.drop k).take 1 = [cs[k]'(by omega)] := by
      have e : (Value.agg cs).cells.toList = cs.toList := rfl
      rw [e, List.drop_eq_getElem_cons (by simp; omega)]
      simp
    rw [e1, List.getElem?_eq_getElem (by omega)] at h2
    exact ⟨_, _, Array.getElem?_eq_getElem (by omega), h2⟩
  have one : ∀ (k : Nat) (f : Field) (K : IntKind), #[f0, f1, f2, f3, f4, f5, f6, f7, f8, f9, f10, f11, f12, f13, f14, f15, f16, f17, f18, f19][k]? = some f → P.underlying f.type = some (.int K) → ∃ z, cs[k]? = some (.int K z) ∧ (Lit.int K z).wf = true := by
    intro k f K hk hu
    obtain ⟨u, z, hc, h2⟩ := cell k f hk
    obtain ⟨z, e2, -, hw⟩ := DataW.trod_int hu h2
    injection e2 with e3
    exact ⟨z, by rw [hc, e3], hw⟩
  have oneB : ∀ (k : Nat) (f : Field), #[f0, f1, f2, f3, f4, f5, f6, f7, f8, f9, f10, f11, f12, f13, f14, f15, f16, f17, f18, f19][k]? = some f → P.underlying f.type = some .bool → ∃ z, cs[k]? = some (.bool z) := by
    intro k f hk hu
    obtain ⟨u, z, hc, h2⟩ := cell k f hk
    obtain ⟨z, e2, -⟩ := DataW.trod_bool hu h2
    injection e2 with e3
    exact ⟨z, by rw [hc, e3]⟩
  clear hg hlen hf hone
  obtain ⟨z0, e0, w0⟩ := one 0 f0 .u16 rfl u0
  have b0 := bounds_u16 w0
  obtain ⟨z1, e1, w1⟩ := one 1 f1 .u16 rfl u1
  have b1 := bounds_u16 w1
  obtain ⟨z2, e2, w2⟩ := one 2 f2 .u16 rfl u2
  have b2 := bounds_u16 w2
  obtain ⟨z3, e3, w3⟩ := one 3 f3 .u16 rfl u3
  have b3 := bounds_u16 w3
  obtain ⟨z4, e4, w4⟩ := one 4 f4 .u16 rfl u4
  have b4 := bounds_u16 w4
  obtain ⟨z5, e5, w5⟩ := one 5 f5 .u16 rfl u5
  have b5 := bounds_u16 w5
  obtain ⟨z6, e6, w6⟩ := one 6 f6 .u16 rfl u6
  have b6 := bounds_u16 w6
  obtain ⟨z7, e7, w7⟩ := one 7 f7 .u16 rfl u7
  have b7 := bounds_u16 w7
  obtain ⟨z8, e8, w8⟩ := one 8 f8 .u16 rfl u8
  have b8 := bounds_u16 w8
  obtain ⟨z9, e9, w9⟩ := one 9 f9 .u16 rfl u9
  have b9 := bounds_u16 w9
  obtain ⟨z10, e10, w10⟩ := one 10 f10 .u16 rfl u10
  have b10 := bounds_u16 w10
  obtain ⟨z11, e11, w11⟩ := one 11 f11 .u16 rfl u11
  have b11 := bounds_u16 w11
  obtain ⟨z12, e12, w12⟩ := one 12 f12 .u16 rfl u12
  have b12 := bounds_u16 w12
  obtain ⟨z13, e13, w13⟩ := one 13 f13 .u8 rfl u13
  have b13 := bounds_u8 w13
  obtain ⟨z14, e14, w14⟩ := one 14 f14 .u8 rfl u14
  have b14 := bounds_u8 w14
  obtain ⟨z15, e15⟩ := oneB 15 f15 rfl u15
  obtain ⟨z16, e16⟩ := oneB 16 f16 rfl u16
  obtain ⟨z17, e17⟩ := oneB 17 f17 rfl u17
  obtain ⟨z18, e18⟩ := oneB 18 f18 rfl u18
  obtain ⟨z19, e19, w19⟩ := one 19 f19 .i64 rfl u19
  have b19 := bounds_i64 w19
  clear one oneB cell
  refine ⟨⟨z0, z1, z2, z3, z4, z5, z6, z7, z8, z9, z10, z11, z12, z13, z14, z15, z16, z17, z18, z19⟩, ?_, ⟨b0, b1, b2, b3, b4, b5, b6, b7, b8, b9, b10, b11, b12, b13, b14, b19⟩⟩
  obtain ⟨l⟩ := cs
  obtain ⟨a0, a1, a2, a3, a4, a5, a6, a7, a8, a9, a10, a11, a12, a13, a14, a15, a16, a17, a18, a19, rfl⟩ := list20 l hsz
  simp only [List.getElem?_toArray, List.getElem?_cons_zero, List.getElem?_cons_succ, Option.some.injEq] at e0 e1 e2 e3 e4 e5 e6 e7 e8 e9 e10 e11 e12 e13 e14 e15 e16 e17 e18 e19
  rw [e0, e1, e2, e3, e4, e5, e6, e7, e8, e9, e10, e11, e12, e13, e14, e15, e16, e17, e18, e19]
end
def flats {H : Type} (F : TypeId → DataW H → Option (List Value)) : List (TypeId × Nat) → List (DataW H) → Nat → Option (List Value)
  | [], [], _ => some []
  | (e, o) :: L, d :: ds, cur => if o = cur then (F e d).bind fun a => (flats F L ds (cur + a.length)).map fun b => a ++ b else none
  | _, _, _ => none
def flat {H : Type} (P : Program) : Nat → TypeId → DataW H → Option (List Value)
  | 0, _, _ => none
  | k + 1, t, d => match P.underlying t, d with
    | some (.int q), .lit (.int q' n) => if q = q' then some [.int q n] else none
    | some .bool, .lit (.bool b) => some [.bool b]
    | some .string, .lit (.string bs) => some [.string ⟨bs.toArray⟩]
    | some (.array n e), .agg ds => (flats (flat P k) ((List.range n).map fun i => (e, i * P.cellsOf e)) ds 0).bind fun out => if out.length = P.cellsOf t then some out else none
    | some (.struct fs), .agg ds => (flats (flat P k) (fs.toList.map fun f => (f.type, f.offset)) ds 0).bind fun out => if out.length = P.cellsOf t then some out else none
    | _, _ => none
section
variable {H : Type} {enc : TypeId × Value → H} {P : Program} {w : World} {base : Nat} {sp : Nat → Bool} {held : Bool}
theorem flats_ok (F : TypeId → DataW H → Option (List Value)) (m : Nat) (cs : List Value)
    (hF : ∀ e d cs' p a, DataW.trod enc P w base sp held m e cs' = some (d, p) → F e d = some a → cs' = a) :
    ∀ (L : List (TypeId × Nat)) (xs : List (DataW H × List MemPlace)) (cur : Nat) (out : List Value), L.length = xs.length →
      (∀ (i : Nat) (e : TypeId) (o : Nat), L[i]? = some (e, o) → DataW.trod enc P w base sp held m e ((cs.drop o).take (P.cellsOf e)) = xs[i]?) → flats F L (xs.map (·.1)) cur = some out → (cs.drop cur).take out.length = out
  | [], [], cur, out, _, _, h => by
    simp only [List.map_nil, flats, Option.some.injEq] at h
    subst h; simp
  | (e, o) :: L, (d, p) :: xs, cur, out, hl, hx, h => by
    simp only [List.map_cons, flats] at h
    split at h
    · rename_i ho
      subst ho
      obtain ⟨a, ha, h⟩ := Option.bind_eq_some_iff.1 h
      obtain ⟨b, hb, rfl⟩ := Option.map_eq_some_iff.1 h
      have h0 := hx 0 e o rfl
      have e1 := hF e d _ p a (by simpa using h0) ha
      have ih := flats_ok F m cs hF L xs (o + a.length) b (by simpa using hl) (fun i e' o' hi => by simpa using hx (i + 1) e' o' (by simpa using hi)) hb
      have e2 : (cs.drop o).take a.length = a := by
        conv => rhs; rw [← e1]
        rw [← e1, List.length_take]
        rcases Nat.le_total (P.cellsOf e) (cs.drop o).length with hq | hq
        · rw [Nat.min_eq_left hq]
        · rw [Nat.min_eq_right hq, List.take_length, List.take_of_length_le hq]
      have e3 : cs.drop o = a ++ cs.drop (o + a.length) := by
        conv => lhs; rw [← List.take_append_drop a.length (cs.drop o), e2, List.drop_drop]
      rw [e3, List.length_append, List.take_length_add_append, ih]
    · cases h
  | [], _ :: _, _, _, hl, _, _ => by simp at hl
  | _ :: _, [], _, _, hl, _, _ => by simp at hl
theorem flat_ok : ∀ (k : Nat) (t : TypeId) (d : DataW H) (cs : List Value) (fuel : Nat) (p : List MemPlace) (out : List Value), DataW.trod enc P w base sp held fuel t cs = some (d, p) → flat P k t d = some out → cs = out
  | 0, _, _, _, _, _, _, _, h => by simp [flat] at h
  | k + 1, t, d, cs, fuel, p, out, ht, h => by
    unfold flat at h
    split at h
    · rename_i hu
      split at h
      · rename_i hq
        subst hq
        obtain ⟨n, rfl, e, _⟩ := DataW.trod_int hu ht
        simp only [Prod.mk.injEq, DataW.lit.injEq, Lit.int.injEq, true_and] at e
        obtain ⟨rfl, _⟩ := e
        exact Option.some.inj h
      · cases h
    · rename_i hu
      obtain ⟨b, rfl, e⟩ := DataW.trod_bool hu ht
      simp only [Prod.mk.injEq, DataW.lit.injEq, Lit.bool.injEq] at e
      obtain ⟨rfl, _⟩ := e
      exact Option.some.inj h
    · rename_i hu
      obtain ⟨s, rfl, e, _⟩ := DataW.trod_string hu ht
      simp only [Prod.mk.injEq, DataW.lit.injEq, Lit.string.injEq] at e
      obtain ⟨rfl, _⟩ := e
      exact Option.some.inj h
    · rename_i n e ds hu
      obtain ⟨xs, m, rfl, hx, hlen, hxl, hi⟩ := DataW.trod_array hu ht
      simp only [Prod.mk.injEq, DataW.agg.injEq] at hx
      obtain ⟨rfl, rfl⟩ := hx
      obtain ⟨o, ho, h⟩ := Option.bind_eq_some_iff.1 h
      split at h
      · rename_i hol
        obtain rfl := Option.some.inj h
        have := flats_ok (flat P k) m cs (fun e d cs' p a h1 h2 => flat_ok k e d cs' m p a h1 h2) _ xs 0 o (by simp [hxl]) (fun i e' o' hq => by
          simp only [List.getElem?_map, Option.map_eq_some_iff, Prod.mk.injEq] at hq
          obtain ⟨j, hj, rfl, rfl⟩ := hq
          obtain ⟨hj1, hj2⟩ := List.getElem?_eq_some_iff.1 hj
          simp only [List.getElem_range] at hj2
          subst hj2
          exact hi _ (by simpa using hj1)) ho
        rwa [List.drop_zero, hol, ← hlen, List.take_length] at this
      · cases h
    · rename_i fs ds hu
      obtain ⟨xs, m, rfl, hx, hlen, hxl, hi⟩ := DataW.trod_struct hu ht
      simp only [Prod.mk.injEq, DataW.agg.injEq] at hx
      obtain ⟨rfl, rfl⟩ := hx
      obtain ⟨o, ho, h⟩ := Option.bind_eq_some_iff.1 h
      split at h
      · rename_i hol
        obtain rfl := Option.some.inj h
        have := flats_ok (flat P k) m cs (fun e d cs' p a h1 h2 => flat_ok k e d cs' m p a h1 h2) _ xs 0 o (by simp [hxl]) (fun i e' o' hq => by
          simp only [List.getElem?_map, Option.map_eq_some_iff, Prod.mk.injEq] at hq
          obtain ⟨f, hf, rfl, rfl⟩ := hq
          exact hi i f (by simpa using hf)) ho
        rwa [List.drop_zero, hol, ← hlen, List.take_length] at this
      · cases h
    · cases h
end
theorem laidVars_at {P : Program} {W : World} {name : String} {d : DataW Unit} : ∀ (laid : List (String × DataW Unit)) (ps : List MemPlace), DataW.LaidVars P W laid ps → ∀ (i : Nat), laid[i]? = some (name, d) →
    ∃ g t cs fuel p, P.globalNamed name = some g ∧ (P.globals[g]?).map (·.type) = some t ∧ W.var? P name = some cs ∧ DataW.trod (fun _ => ()) P W 0 (fun _ => true) false fuel t cs.toList = some (d, p)
  | [], _, _, i, hi => by simp at hi
  | (n, d') :: r, ps, h, 0, hi => by
    obtain ⟨g, t, cs, fuel, p, q, h1, h2, h3, h4, _, _⟩ := h
    simp only [List.getElem?_cons_zero, Option.some.injEq, Prod.mk.injEq] at hi
    obtain ⟨rfl, rfl⟩ := hi
    exact ⟨g, t, cs, fuel, p, h1, h2, h3, h4⟩
  | (n, d') :: r, ps, h, i + 1, hi => by
    obtain ⟨g, t, cs, fuel, p, q, _, _, _, _, h5, _⟩ := h
    exact laidVars_at r q h5 i (by simpa using hi)
theorem laid_var {P : Program} {W : World} {name : String} {d : DataW Unit} {laid : List (String × DataW Unit)} {g : Nat} {t : TypeId} {k : Nat} {out : List Value} (i : Nat) (hi : laid[i]? = some (name, d)) (hg : P.globalNamed name = some g) (hty : (P.globals[g]?).map (·.type) = some t)
    (hf : flat P k t d = some out) (h : laidMet P laid W) : W.var? P name = some out.toArray := by
  obtain ⟨ps, h1, _⟩ := h
  obtain ⟨g', t', cs, fuel, p, hg', ht', hvar, hd⟩ := laidVars_at laid ps h1 i hi
  obtain rfl := Option.some.inj (hg.symm.trans hg')
  obtain rfl := Option.some.inj (hty.symm.trans ht')
  rw [hvar, ← flat_ok k t d _ _ _ _ hd hf]
theorem laid_cell {P : Program} {W : World} {name : String} {g : Nat} {out : List Value} (h : W.var? P name = some out.toArray) (hg : P.globalNamed name = some g) (i : Nat) (v : Value) (hv : out[i]? = some v) : W.cell? ⟨g, i, none⟩ = some v := by
  rw [World.var?_cell hg h i]
  simpa using hv
structure Rd (w : World) (B A C S : Nat) (ad : Option Addr) (cap : Nat) (xs : List Int) (k : Nat) : Prop where
  hA : Boxed w A 3 (.int .i64 ((min k xs.length : Nat) : Int))
  hC : Boxed w C 25 (.slice ad xs.length cap)
  hS : Boxed w S 4 (.bool (decide (xs.length < k)))
  bytes : BytesIn w B ad xs
  bA : B ≤ A
  bC : B ≤ C
  bS : B ≤ S
  nAC : A ≠ C
  nAS : A ≠ S
  nCS : C ≠ S
theorem Rd.keep {w w' : World} {B A C S : Nat} {ad : Option Addr} {cap : Nat} {xs : List Int} {k : Nat} (h : Rd w B A C S ad cap xs k) (e : ∀ b, b < B ∨ b = A ∨ b = C ∨ b = S → w'.heap[b]? = w.heap[b]?) : Rd w' B A C S ad cap xs k :=
  { h with hA := (e A (by omega)).trans h.hA, hC := (e C (by omega)).trans h.hC, hS := (e S (by omega)).trans h.hS, bytes := h.bytes.keep fun b hb => e b (by omega) }
theorem Rd.alloc {w : World} {B A C S : Nat} {ad : Option Addr} {cap : Nat} {xs : List Int} {k : Nat} (h : Rd w B A C S ad cap xs k) (o : Obj) : Rd (w.alloc o) B A C S ad cap xs k :=
  h.keep fun b hb => Below.heap_alloc w o b (by
    have h1 := h.hA.lt; have h2 := h.hC.lt; have h3 := h.hS.lt; have := h.bA
    rcases hb with e | e | e | e <;> omega)
theorem Rd.far {w : World} {B A C S : Nat} {ad : Option Addr} {cap : Nat} {xs : List Int} {k : Nat} (h : Rd w B A C S ad cap xs k) {p : Addr} (hp : B ≤ p.block ∧ p.block ≠ A ∧ p.block ≠ C ∧ p.block ≠ S) (u : Value) : Rd (w.setCell p u) B A C S ad cap xs k :=
  h.keep fun b hb => Below.heap_setCell w p u b (by omega)
theorem Rd.below {w w' : World} {B A C S : Nat} {ad : Option Addr} {cap : Nat} {xs : List Int} {k : Nat} (h : Rd w B A C S ad cap xs k) (e : Below w.heap.size w w') : Rd w' B A C S ad cap xs k :=
  h.keep fun b hb => e.block b (by
    have h1 := h.hA.lt; have h2 := h.hC.lt; have h3 := h.hS.lt; have := h.bA
    rcases hb with e | e | e | e <;> omega)
def After (w w' : World) (B A C S : Nat) (ad : Option Addr) (cap : Nat) (xs : List Int) (k : Nat) : Prop := Rd w' B A C S ad cap xs k ∧ Besides A S w w'
def rdsOf (A S : Nat) (w : World) : Nat :=
  (match w.cell? ⟨A, 0, none⟩ with | some (.int _ n) => n.toNat | _ => 0) + (match w.cell? ⟨S, 0, none⟩ with | some (.bool true) => 1 | _ => 0)
theorem Rd.reads {w : World} {B A C S : Nat} {ad : Option Addr} {cap : Nat} {xs : List Int} {k : Nat} (h : Rd w B A C S ad cap xs k) (hk : k ≤ xs.length + 1) : rdsOf A S w = k := by
  unfold rdsOf
  rw [h.hA.cell, h.hS.cell]
  rcases Nat.lt_or_ge xs.length k with e | e
  · rw [decide_eq_true e]
    simp
    omega
  · rw [decide_eq_false (by omega)]
    simp
    omega
theorem row6 {w : World} {g : Nat} {t : TypeId} {v0 v1 v2 v3 v4 v5 : Value} (h : Row w g t #[v0, v1, v2, v3, v4, v5]) :
    (w.cell? ⟨g, 0, none⟩ = some v0 ∧ w.cell? ⟨g, 1, none⟩ = some v1 ∧ w.cell? ⟨g, 2, none⟩ = some v2 ∧ w.cell? ⟨g, 3, none⟩ = some v3 ∧ w.cell? ⟨g, 4, none⟩ = some v4 ∧ w.cell? ⟨g, 5, none⟩ = some v5) ∧ ∀ i, w.frozen? ⟨g, i, none⟩ = false :=
  ⟨⟨h.cell 0, h.cell 1, h.cell 2, h.cell 3, h.cell 4, h.cell 5⟩, h.frozen⟩
abbrev zeroC : Array Value := #[.int .i64 0, .int .u8 0, .int .u8 0, .int .u16 0, .int .i64 0, .int .i64 0]
structure Fr (w : World) (B A C S : Nat) (ad : Option Addr) (cap : Nat) (xs : List Int) (k : Nat) (W : World) : Prop where
  rd : Rd W B A C S ad cap xs k
  row : Row W w.heap.size 39 zeroC
  bes : Besides A S w W
  lt : A < w.heap.size ∧ C < w.heap.size ∧ S < w.heap.size
theorem Fr.set {w W : World} {B A C S : Nat} {ad : Option Addr} {cap : Nat} {xs : List Int} {k : Nat} (h : Fr w B A C S ad cap xs k W) (i : Nat) (u : Value) : Fr w B A C S ad cap xs k (W.setCell ⟨w.heap.size + 1, i, none⟩ u) :=
  { h with
    rd := h.rd.far (p := ⟨w.heap.size + 1, i, none⟩) (by have := h.lt; have := h.rd.bA; show B ≤ w.heap.size + 1 ∧ w.heap.size + 1 ≠ A ∧ w.heap.size + 1 ≠ C ∧ w.heap.size + 1 ≠ S; omega) u
    row := h.row.far (p := ⟨w.heap.size + 1, i, none⟩) (by show w.heap.size ≠ w.heap.size + 1; omega) u
    bes := h.bes.setCell (p := ⟨w.heap.size + 1, i, none⟩) (.inr (.inr (by show w.heap.size ≤ w.heap.size + 1; omega))) u }
theorem Fr.below {w W W' : World} {B A C S : Nat} {ad : Option Addr} {cap : Nat} {xs : List Int} {k : Nat} (h : Fr w B A C S ad cap xs k W) (hb : Below W.heap.size W W') : Fr w B A C S ad cap xs k W' :=
  { h with rd := h.rd.below hb, row := h.row.below hb h.row.lt, bes := h.bes.trans (.of_below hb) }
theorem Fr.after {w W W' : World} {B A C S : Nat} {ad : Option Addr} {cap : Nat} {xs : List Int} {k k' : Nat} (h : Fr w B A C S ad cap xs k W) (a : After W W' B A C S ad cap xs k') : Fr w B A C S ad cap xs k' W' :=
  { h with rd := a.1, row := h.row.besides a.2 (by have := h.lt; omega) (by have := h.lt; omega), bes := h.bes.trans a.2 }
theorem Fr.own {w W W' : World} {B A C S : Nat} {ad : Option Addr} {cap : Nat} {xs : List Int} {k k' : Nat} {cs : Array Value} (h : Fr w B A C S ad cap xs k W) (a : After W W' B A C S ad cap xs k') (r : Row W (w.heap.size + 1) 39 cs) : Row W' (w.heap.size + 1) 39 cs :=
  r.besides a.2 (by have := h.lt; omega) (by have := h.lt; omega)
theorem hReads_gb (xs : List Int) : lenOf xs = hReads (gb xs) (lead xs) (preP xs (lead xs)) + (sizeM (opOf xs).plane (opOf xs).code).toNat := by
  have k := sizeM_le (hPlane (preP xs (lead xs)) (gb xs (lead xs))) (hCode (gb xs) (lead xs) (preP xs (lead xs)))
  have e : (opOf xs).len = (hReads (gb xs) (lead xs) (preP xs (lead xs)) : Int) + sizeM (opOf xs).plane (opOf xs).code := rfl
  have e2 := lenOf_eq xs
  have e3 : (opOf xs).plane = hPlane (preP xs (lead xs)) (gb xs (lead xs)) := rfl
  have e4 : (opOf xs).code = hCode (gb xs) (lead xs) (preP xs (lead xs)) := rfl
  rw [e3, e4] at e ⊢
  omega
theorem opOf_parts (xs : List Int) (k : Nat) (hk : k = lead xs) (pp ss c q code d sk : Int) (r : Nat) (hp : preP xs k = pp) (hs : ((k - 1 : Nat) : Int) = ss) (hc : gb xs k = c)
    (hq : hPlane pp c = q) (hcode : hCode (gb xs) k pp = code) (hd : hDisp (gb xs) k pp = d) (hsk : hSkip pp ss c = sk) (hr : hReads (gb xs) k pp = r) :
    opV (opOf xs).plane (opOf xs).code (opOf xs).disp (opOf xs).imm 0 (opOf xs).skip = opV q code d (immM (gb xs) r (sizeM q code)) 0 sk ∧ lenOf xs = r + (sizeM q code).toNat := by
  subst hk hp hs hc hq hcode hd hsk hr
  exact ⟨rfl, hReads_gb xs⟩
theorem sizeM_cases (q c : Int) : sizeM q c = 0 ∨ sizeM q c = 1 ∨ sizeM q c = 2 := by have := sizeM_le q c; omega
abbrev opB (o : OpM) (b : Bool) : Value := .tuple #[opV o.plane o.code o.disp o.imm o.len o.skip, .bool b]
theorem okM_yes {xs : List Int} (h : okM xs = true) : lenOf xs ≤ xs.length ∧ nextO xs = opOf xs := by
  have h2 := h
  unfold okM at h2
  rw [decide_eq_true_eq] at h2
  exact ⟨h2, by unfold nextO; rw [h]; rfl⟩
theorem okM_no {xs : List Int} (h : okM xs = false) : xs.length < lenOf xs ∧ nextO xs = zeroOp := by
  have h2 := h
  unfold okM at h2
  rw [decide_eq_false_iff_not] at h2
  exact ⟨by omega, by unfold nextO; rw [h]; rfl⟩
end Go.Proofs.YtibmpaeaicpbcaaGreatDoor
