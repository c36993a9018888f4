/- Contracts and facts that the claim's proof wants (several texts in one). -/
import Derived.Lib.ItoaNum
import Derived.Deep.LoopGhost
import Derived.Maps.AppendAt
import Derived.Laws.OwnMore
import Derived.Test.YtkenebbjodcbcaaGreatDoorChecked
import Derived.KernelRfl
import Derived.Laws.AppendOwn
import Derived.Laws.AppendOwnNone
import Derived.OwnWalk
import Derived.Test.YtkenebbjodcbcaaGreatDoorCoG1
import Derived.Test.YtkenebbjodcbcaaGreatDoorCoG2
import Derived.Test.YtkenebbjodcbcaaGreatDoorCoG3
import Derived.Test.YtkenebbjodcbcaaGreatDoorCoG4
import Derived.Test.YtkenebbjodcbcaaGreatDoorCoG7
import Derived.Test.YtkenebbjodcbcaaGreatDoorCoG15
namespace Go.Proofs.YtkenebbjodcbcaaGreatDoor
open Go.RowKit
set_option linter.unusedVariables false
set_option linter.unusedSimpArgs false
set_option maxRecDepth 20000
set_option maxHeartbeats 20000000
def AccOk : Prop := ∀ (g : Rg) (which : Int) (xs : List Int), RgB g → Bytes8 xs → ((accOf g which xs).b = true → RgB (accOf g which xs).g) ∧ ((accOf g which xs).b = false → Wd16 (accOf g which xs).c.addr ∧ B8 (accOf g which xs).c.data)
structure OkS (x : Sx) : Prop where
  got : Bytes8 x.got
  m : Cells16 x.m
  p : Bytes8 x.p
structure OkW (w : Wd) : Prop where
  g : RgB w.g
  m : Cells16 w.m
  p : Bytes8 w.p
theorem OkW.beg {w : Wd} (h : OkW w) : OkS (begS w) := ⟨fun x hx => (by cases hx), h.m, h.p⟩
theorem headD_b8 {p : List Int} (h : Bytes8 p) : B8 (p.headD 255) := by
  cases p with
  | nil => exact ⟨by decide, by decide⟩
  | cons b r => exact h.head
theorem ansS_b8 {x : Sx} (h : OkS x) (c : Cy) {v : Int} (hv : B8 v) : B8 (ansS c v x.m x.p) := by
  unfold ansS
  split
  · exact getC_b8 h.m _
  split
  · exact headD_b8 h.p
  split
  · exact hv
  · exact B8.zero
theorem Bytes8.snoc {xs : List Int} (h : Bytes8 xs) {b : Int} (hb : B8 b) : Bytes8 (xs ++ [b]) := fun x hx => by
  rcases List.mem_append.1 hx with e | e
  · exact h x e
  · rw [List.mem_singleton.1 e]; exact hb
theorem Bytes8.tl {p : List Int} (h : Bytes8 p) : Bytes8 p.tail := fun x hx => h x (List.mem_of_mem_tail hx)
theorem OkS.next {x : Sx} (h : OkS x) {c : Cy} (hc : Wd16 c.addr ∧ B8 c.data) {v : Int} (hv : B8 v) : OkS (nextS c v x) := by
  refine ⟨h.got.snoc (ansS_b8 h c hv), ?_, ?_⟩
  · show Cells16 (memS c x.m)
    unfold memS
    split
    · exact c16_append h.m fun d hd => by
        rw [List.mem_singleton.1 hd]
        exact ⟨hc.1.1, hc.1.2, hc.2.1, hc.2.2⟩
    · exact h.m
  · show Bytes8 (porS c x.p)
    unfold porS
    split
    · exact h.p.tl
    · exact h.p
theorem OkS.go (hA : AccOk) {g : Rg} (hg : RgB g) (which : Int) {v : Int} (hv : B8 v) : ∀ (k : Nat) {x : Sx}, OkS x → OkS (goS g which v k x)
  | 0, x, h => h
  | k + 1, x, h => by
    unfold goS
    split
    · exact h
    · rename_i hb
      exact OkS.go hA hg which hv k (h.next ((hA g which x.got hg h.got).2 (by simpa using hb)) hv)
theorem OkW.x (hA : AccOk) {w : Wd} (h : OkW w) (which : Int) {v : Int} (hv : B8 v) : OkS (stepX w which v) := h.beg.go hA h.g which hv 200
theorem OkW.pstepW (hA : AccOk) {w : Wd} (h : OkW w) (which : Int) {v : Int} (hv : B8 v) : OkW (pstepW w which v) := by
  have k := h.x hA which hv
  refine ⟨?_, k.m, k.p⟩
  show RgB (endP w.g which _)
  unfold endP
  split
  · rename_i hb
    exact (hA _ _ _ h.g k.got).1 hb
  · exact h.g
theorem OkW.run (hA : AccOk) : ∀ (k : Nat) {w : Wd}, OkW w → OkW (runW k w).1
  | 0, w, h => h
  | k + 1, w, h => OkW.run hA k (h.pstepW hA 0 B8.zero)
def wrS (l : List Cy) (m : List (Int × Int)) : List (Int × Int) := l.foldl (fun m c => memS c m) m
def inS (l : List Cy) : Nat := (l.filter fun c => decide (c.kind = 4)).length
theorem wr_snoc (l : List Cy) (c : Cy) (m : List (Int × Int)) : wrS (l ++ [c]) m = memS c (wrS l m) := by unfold wrS; rw [List.foldl_append]; rfl
theorem in_snoc (l : List Cy) (c : Cy) : inS (l ++ [c]) = if c.kind = 4 then inS l + 1 else inS l := by
  unfold inS
  rw [List.filter_append, List.length_append]
  by_cases h : c.kind = 4 <;> simp [h]
structure TellS (v : Int) (m0 : List (Int × Int)) (p0 : List Int) (x : Sx) : Prop where
  m : x.m = wrS x.l m0
  p : x.p = p0.drop (inS x.l)
  at_ : ∀ (k : Nat) (h : k < x.l.length), x.l[k].kind ≠ 7 ∧ (x.l[k].kind = 1 ∨ x.l[k].kind = 2 → x.l[k].data = getC (wrS (x.l.take k) m0) x.l[k].addr) ∧ (x.l[k].kind = 6 → x.l[k].data = v)
theorem cyc_kind (c : Cy) (b : Int) : (cycS c b).kind = c.kind := by unfold cycS; split <;> rfl
theorem cyc_addr (c : Cy) (b : Int) : (cycS c b).addr = c.addr := by unfold cycS; split <;> rfl
theorem cyc_mem (c : Cy) (b : Int) (m : List (Int × Int)) : memS (cycS c b) m = memS c m := by
  unfold memS
  rw [cyc_kind, cyc_addr]
  by_cases h : c.kind = 3
  · rw [if_pos h, if_pos h]
    unfold cycS
    rw [if_pos (.inl h)]
  · rw [if_neg h, if_neg h]
theorem TellS.next {v : Int} {m0 : List (Int × Int)} {p0 : List Int} {x : Sx} (h : TellS v m0 p0 x) (c : Cy) : TellS v m0 p0 (nextS c v x) := by
  obtain ⟨h1, h2, h3⟩ := h
  by_cases h7 : c.kind = 7
  · have e : (nextS c v x).l = x.l := by show lisS c _ x.l = x.l; unfold lisS; rw [if_pos h7]
    have em : (nextS c v x).m = x.m := by show memS c x.m = x.m; unfold memS; rw [if_neg (by omega)]
    have ep : (nextS c v x).p = x.p := by show porS c x.p = x.p; unfold porS; rw [if_neg (by omega)]
    exact ⟨by rw [em, e]; exact h1, by rw [ep, e]; exact h2, by rw [e]; exact h3⟩
  · have e : (nextS c v x).l = x.l ++ [cycS c (ansS c v x.m x.p)] := by show lisS c _ x.l = _; unfold lisS; rw [if_neg h7]
    refine ⟨?_, ?_, ?_⟩
    · rw [e, wr_snoc, cyc_mem, ← h1]; rfl
    · rw [e, in_snoc, cyc_kind]
      show porS c x.p = _
      unfold porS
      split
      · rw [h2, List.tail_drop]
      · exact h2
    · rw [e]
      intro k hk
      rw [List.length_append, List.length_singleton] at hk
      by_cases hl : k < x.l.length
      · rw [List.getElem_append_left hl, List.take_append_of_le_length (by omega)]
        exact h3 k hl
      · obtain rfl : k = x.l.length := by omega
        rw [List.getElem_append_right (Nat.le_refl _), List.take_left]
        simp only [Nat.sub_self, List.getElem_cons_zero]
        rw [cyc_kind, cyc_addr, ← h1]
        refine ⟨h7, fun hk => ?_, fun hk => ?_⟩
        · unfold cycS
          rw [if_neg (by omega)]
          show ansS c v x.m x.p = _
          unfold ansS
          rw [if_pos hk]
        · unfold cycS
          rw [if_neg (by omega)]
          show ansS c v x.m x.p = _
          unfold ansS
          rw [if_neg (by omega), if_neg (by omega), if_pos hk]
theorem TellS.go {v : Int} {m0 : List (Int × Int)} {p0 : List Int} (g : Rg) (which : Int) : ∀ (k : Nat) {x : Sx}, TellS v m0 p0 x → TellS v m0 p0 (goS g which v k x)
  | 0, x, h => h
  | k + 1, x, h => by
    unfold goS
    split
    · exact h
    · exact TellS.go g which k (h.next _)
def sampN (k : Int) : Nat := if k = 1 ∨ k = 2 ∨ k = 3 then 2 else if k = 4 ∨ k = 5 then 3 else if k = 6 then 4 else 0
def okCy (c : Cy) : Bool := decide (1 ≤ c.kind ∧ c.kind ≤ 7 ∧ (sampN c.kind : Int) < c.t ∧ c.t ≤ 32)
theorem samp_le (k : Int) : sampN k ≤ 4 := by unfold sampN; split <;> (try split) <;> (try split) <;> omega
theorem okCy_iff (c : Cy) : okCy c = true ↔ 1 ≤ c.kind ∧ c.kind ≤ 7 ∧ (sampN c.kind : Int) < c.t ∧ c.t ≤ 32 := by unfold okCy; exact decide_eq_true_iff
structure AtT where
  c : Cy
  k : Int
  w : Int
def tickM (a : AtT) (wait : Bool) : AtT × Bool × Bool :=
  if okCy a.c = false ∨ a.k < 0 ∨ a.c.t ≤ a.k then (a, false, false)
  else if sampN a.c.kind ≠ 0 ∧ a.k = (sampN a.c.kind : Int) - 1 ∧ wait = true then (⟨a.c, a.k, IntKind.i64.wrap (a.w + 1)⟩, false, false)
  else (⟨a.c, a.k + 1, a.w⟩, decide (sampN a.c.kind ≠ 0 ∧ a.k + 1 = (sampN a.c.kind : Int) + 1), decide (a.k + 1 = a.c.t))
theorem tick_no {a : AtT} {wait : Bool} (h : okCy a.c = false ∨ a.k < 0 ∨ a.c.t ≤ a.k) : tickM a wait = (a, false, false) := if_pos h
theorem tick_wait {a : AtT} {wait : Bool} (h : ¬ (okCy a.c = false ∨ a.k < 0 ∨ a.c.t ≤ a.k)) (h2 : sampN a.c.kind ≠ 0 ∧ a.k = (sampN a.c.kind : Int) - 1 ∧ wait = true) : tickM a wait = (⟨a.c, a.k, IntKind.i64.wrap (a.w + 1)⟩, false, false) := (if_neg h).trans (if_pos h2)
theorem tick_go {a : AtT} {wait : Bool} (h : ¬ (okCy a.c = false ∨ a.k < 0 ∨ a.c.t ≤ a.k)) (h2 : ¬ (sampN a.c.kind ≠ 0 ∧ a.k = (sampN a.c.kind : Int) - 1 ∧ wait = true)) : tickM a wait = (⟨a.c, a.k + 1, a.w⟩, decide (sampN a.c.kind ≠ 0 ∧ a.k + 1 = (sampN a.c.kind : Int) + 1), decide (a.k + 1 = a.c.t)) := (if_neg h).trans (if_neg h2)
structure CoT where
  r : Rg
  wh : Int
  got : List Int
  a : AtT
  b : Int
  nmi : Bool
  was : Bool
  off : Bool
structure LnT where
  wait : Bool
  bus : Bool
  irq : Bool
  nmi : Bool
  reset : Bool
def zeroLn : LnT := ⟨false, false, false, false, false⟩
def at0 (c : Cy) : AtT := ⟨c, 0, 0⟩
def zeroCo : CoT := ⟨zeroRg, 0, [], at0 zeroCy, 0, false, false, false⟩
def CoT.start (c : CoT) (r : Rg) (wh : Int) : CoT := { c with r := r, wh := wh, got := [], a := at0 (accOf r wh []).c }
def newM (r : Rg) : CoT := zeroCo.start r 0
def CoT.note (c : CoT) (n : Bool) : CoT := { c with nmi := c.nmi || (n && !c.was), was := n }
def putK (k : Int) : Bool := k == 3 || k == 5
def CoT.pass (c : CoT) (a : AtT) (moved : Bool) (b : Int) : CoT := { c with a := a, b := if moved then (if putK a.c.kind then 0 else b) else c.b }
def CoT.choose (c : CoT) (r : Rg) (irq : Bool) : CoT := { c with nmi := if whichM r c.nmi irq = 1 then false else c.nmi }.start r (whichM r c.nmi irq)
def CoT.leaves (c : CoT) : Bool := c.a.c.kind != 7
def CoT.go1 (c : CoT) (T : T3) (irq : Bool) : CoT := if T.b then c.choose T.g irq else { c with a := at0 T.c }
def CoT.fin1 (c : CoT) (irq : Bool) : CoT := { c with got := c.got ++ [c.b], b := 0 }.go1 (accOf c.r c.wh (c.got ++ [c.b])) irq
def CoT.fin (c : CoT) (l : LnT) : CoT := { c.fin1 l.irq with off := l.bus && (c.fin1 l.irq).leaves }
def tickC (c : CoT) (l : LnT) (b : Int) : CoT :=
  if l.reset = true then { newM (resetG c.r) with was := l.nmi } else
  if c.off = true then { c.note l.nmi with off := l.bus } else
  if (tickM c.a l.wait).2.2 = true then ((c.note l.nmi).pass (tickM c.a l.wait).1 (tickM c.a l.wait).2.1 b).fin l else (c.note l.nmi).pass (tickM c.a l.wait).1 (tickM c.a l.wait).2.1 b
def asksB (c : CoT) (l : LnT) : Bool := !l.reset && (!c.off && (tickM c.a l.wait).2.1)
def asksC (c : CoT) (l : LnT) : Cy := if asksB c l = true then c.a.c else zeroCy
def overB (c : CoT) (l : LnT) : Bool := !l.reset && (!c.off && (tickM c.a l.wait).2.2)
def endsB (c : CoT) (l : LnT) (b : Int) : Bool := overB c l && (tickC c l b).leaves
def freshB (c : CoT) : Bool := c.got.isEmpty && (c.a.k == 0 && c.a.w == 0)
theorem tick_reset {c : CoT} {l : LnT} (h : l.reset = true) (b : Int) : tickC c l b = { newM (resetG c.r) with was := l.nmi } := if_pos h
theorem tick_away {c : CoT} {l : LnT} (h : l.reset = false) (h1 : c.off = true) (b : Int) : tickC c l b = { c.note l.nmi with off := l.bus } := (if_neg (by rw [h]; simp)).trans (if_pos h1)
theorem tick_over {c : CoT} {l : LnT} {t : AtT × Bool × Bool} (h : l.reset = false) (h1 : c.off = false) (ht : tickM c.a l.wait = t) (h2 : t.2.2 = true) (b : Int) : tickC c l b = ((c.note l.nmi).pass t.1 t.2.1 b).fin l := by
  subst ht
  exact (if_neg (by rw [h]; simp)).trans ((if_neg (by rw [h1]; simp)).trans (if_pos h2))
theorem tick_in {c : CoT} {l : LnT} {t : AtT × Bool × Bool} (h : l.reset = false) (h1 : c.off = false) (ht : tickM c.a l.wait = t) (h2 : t.2.2 = false) (b : Int) : tickC c l b = (c.note l.nmi).pass t.1 t.2.1 b := by
  subst ht
  exact (if_neg (by rw [h]; simp)).trans ((if_neg (by rw [h1]; simp)).trans (if_neg (by rw [h2]; simp)))
structure OkC (c : CoT) : Prop where
  r : RgB c.r
  got : Bytes8 c.got
  b : B8 c.b
theorem zeroRg_b : RgB zeroRg := by constructor <;> first | exact ⟨by decide, by decide⟩ | decide
theorem reset_b {g : Rg} (h : RgB g) : RgB (resetG g) := ⟨h.af, h.bc, h.de, h.hl, h.af2, h.bc2, h.de2, h.hl2, h.ix, h.iy, h.sp, Wd16.zero, h.wz, B8.zero, B8.zero, ⟨by show (-9223372036854775808 : Int) ≤ 0; decide, by show (0 : Int) ≤ 9223372036854775807; decide⟩⟩
theorem b8_nil : Bytes8 [] := fun _ h => (by cases h)
theorem OkC.start {c : CoT} (h : B8 c.b) {r : Rg} (hr : RgB r) (wh : Int) : OkC (c.start r wh) := ⟨hr, b8_nil, h⟩
theorem OkC.new {r : Rg} (hr : RgB r) : OkC (newM r) := OkC.start B8.zero hr 0
theorem b8_snoc {xs : List Int} {b : Int} (h : Bytes8 xs) (hb : B8 b) : Bytes8 (xs ++ [b]) := fun x hx => by
  rcases List.mem_append.1 hx with k | k
  · exact h x k
  · rw [List.mem_singleton.1 k]; exact hb
theorem OkC.fin (hA : AccOk) {c : CoT} (h : OkC c) (l : LnT) : OkC (c.fin l) := by
  have hg := b8_snoc h.got h.b
  have k := (hA c.r c.wh _ h.r hg).1
  have : OkC (c.fin1 l.irq) := by
    unfold CoT.fin1 CoT.go1
    split
    · rename_i e; exact OkC.start B8.zero (k e) _
    · exact ⟨h.r, hg, B8.zero⟩
  exact ⟨this.r, this.got, this.b⟩
theorem OkC.pass {c : CoT} (h : OkC c) (a : AtT) (m : Bool) {b : Int} (hb : B8 b) : OkC (c.pass a m b) := ⟨h.r, h.got, by
  show B8 (if m = true then (if putK a.c.kind = true then 0 else b) else c.b)
  split
  · split
    · exact B8.zero
    · exact hb
  · exact h.b⟩
theorem OkC.tick (hA : AccOk) {c : CoT} (h : OkC c) (l : LnT) {b : Int} (hb : B8 b) : OkC (tickC c l b) := by
  have h1 : OkC (c.note l.nmi) := ⟨h.r, h.got, h.b⟩
  unfold tickC
  split
  · have := OkC.new (reset_b h.r); exact ⟨this.r, this.got, this.b⟩
  · split
    · exact ⟨h.r, h.got, h.b⟩
    · split
      · exact (h1.pass _ _ hb).fin hA l
      · exact h1.pass _ _ hb
theorem tick_len (c : CoT) (l : LnT) (b : Int) : (tickC c l b).got.length ≤ c.got.length + 1 := by
  have hf : ∀ d : CoT, (d.fin l).got.length ≤ d.got.length + 1 := fun d => by
    show (d.fin1 l.irq).got.length ≤ _
    unfold CoT.fin1 CoT.go1
    split
    · show ([] : List Int).length ≤ _; simp
    · show (d.got ++ [d.b]).length ≤ _; simp
  unfold tickC
  split
  · show ([] : List Int).length ≤ _; simp
  · split
    · exact Nat.le_succ _
    · split
      · exact hf ((c.note l.nmi).pass (tickM c.a l.wait).1 (tickM c.a l.wait).2.1 b)
      · exact Nat.le_succ _
def nopG (g : Rg) : Rg := { tickG g 1 with pc := (g.pc + 1) % 65536, late := false }
theorem acc_ask (g : Rg) : accOf g 0 [] = askT ⟨1, g.pc, 0, 4⟩ := by
  unfold accOf
  rw [if_neg (by decide), if_neg (by decide), next_nil]
  rfl
theorem acc_nop {g : Rg} (h : g.halted = false) : accOf g 0 [0] = endT (nopG g) := by
  unfold accOf
  rw [if_neg (by decide), if_neg (by decide), next_cons h, exec_body (by decide)]
  rfl
inductive Pl where
  | val (v : Value)
  | call (v : Value)
  | box (t : TypeId) (z : Array Value) (st : Option (Nat × Array Value)) (sl : Option Nat)
  | put (j : Nat)
def Pl.value (x : Pl) (p : Nat → Nat) (k : Nat) : Value := match x with
  | .val v => v
  | .call v => v
  | .box _ _ _ none => .pointer (some ⟨p k, 0, none⟩)
  | .box _ _ _ (some n) => .slice (some ⟨p k, 0, none⟩) n n
  | .put _ => undef
def nowC (listed : Array Bool) (z : Array Value) : Option (Nat × Array Value) → Array Value
  | none => z
  | some (s, vs) => if listed.getD s false = true then vs else z
def endC (z : Array Value) : Option (Nat × Array Value) → Array Value
  | none => z
  | some (_, vs) => vs
abbrev Plan := List (Option Tmp × Pl)
def distinctB : List (Option Tmp) → Bool
  | [] => true
  | none :: l => distinctB l
  | some d :: l => !l.contains (some d) && distinctB l
theorem distinct_ne {d : Tmp} : ∀ {D : List (Option Tmp)} {k : Nat}, D.contains (some d) = false → D[k]? = some (some d) → False
  | [], _, _, h => by simp at h
  | e :: D, 0, h, hk => by
    simp at hk
    subst hk
    simp at h
  | e :: D, k + 1, h, hk => by
    simp only [List.contains_cons, Bool.or_eq_false_iff] at h
    exact distinct_ne (D := D) (k := k) h.2 (by simpa using hk)
section
variable {P : Program} {ops : Array Oper} {Q : Exit → Act → World → Prop}
structure BoxI (L : Plan) (a0 : Act) (w0 : World) (p : Nat → Nat) (listed : Array Bool) (a : Act) (w : World) : Prop where
  size : listed.size = L.length
  df : a.defers = a0.defers
  len : a.tmps.size = a0.tmps.size
  slot : ∀ (k : Nat) (d : Tmp) (x : Pl), L[k]? = some (some d, x) → listed.getD k false = true → a.tmps[d]? = some (x.value p k)
  rest : ∀ (s : Nat), (∀ (k : Nat) (x : Pl), L[k]? ≠ some (some s, x)) → a.tmps[s]? = a0.tmps[s]?
  below : Below w0.heap.size w0 w
  boxed : ∀ (k : Nat) (d : Option Tmp) (t : TypeId) (z : Array Value) (s : Option (Nat × Array Value)) (vs : Option Nat), L[k]? = some (d, .box t z s vs) → listed.getD k false = true → w0.heap.size ≤ p k ∧ Row w (p k) t (nowC listed z s)
  apart : ∀ (k l : Nat) (d : Option Tmp) (t : TypeId) (z : Array Value) (s : Option (Nat × Array Value)) (vs : Option Nat) (d' : Option Tmp) (t' : TypeId) (z' : Array Value) (s' : Option (Nat × Array Value)) (vs' : Option Nat), L[k]? = some (d, .box t z s vs) → L[l]? = some (d', .box t' z' s' vs') → listed.getD k false = true → listed.getD l false = true → k ≠ l → p k ≠ p l
def needB (ops : Array Oper) (k j : Nat) : Bool := match ops[k]? with
  | some o => o.after.toList.any fun e => Region.binds .any e && e.on == j
  | none => false
theorem getD_at {α : Type} {xs : Array α} {k : Nat} {d v : α} (h : xs[k]? = some v) : xs.getD k d = v := by
  rw [Array.getD_eq_getD_getElem?, h]; rfl
theorem BoxI.tmp {L : Plan} {a0 : Act} {w0 : World} {p : Nat → Nat} {listed : Array Bool} {a : Act} {w : World} (h : BoxI L a0 w0 p listed a w) {k : Nat} (hd : ∀ j, needB ops k j = true → listed.getD j false = true) (j : Nat) (hn : needB ops k j = true) {d : Tmp} {x : Pl} (hL : L[j]? = some (some d, x)) :
    a.eval (.tmp d) = x.value p j := getD_at (h.slot j d x hL (hd j hn))
theorem BoxI.old {L : Plan} {a0 : Act} {w0 : World} {p : Nat → Nat} {listed : Array Bool} {a : Act} {w : World} (h : BoxI L a0 w0 p listed a w) (s : Tmp) {v : Value} (hv : a0.tmps[s]? = some v) (hn : ((L.map (·.1)).contains (some s)) = false) : a.eval (.tmp s) = v :=
  getD_at ((h.rest s fun k x e => distinct_ne (D := L.map (·.1)) (k := k) hn (by rw [List.getElem?_map, e]; rfl)).trans hv)
structure PlanOk (ops : Array Oper) (L : Plan) (N : Nat) : Prop where
  len : L.length = ops.size
  get : ∀ (k : Nat) (o : Oper), ops[k]? = some o → ∃ x, L[k]? = some (o.dst, x)
  fit : ∀ (k : Nat) (d : Tmp) (x : Pl), L[k]? = some (some d, x) → d < N
  guard : ∀ (k : Nat) (o : Oper), ops[k]? = some o → o.guard = none
  dist : distinctB (L.map (·.1)) = true
  store : ∀ (k : Nat) (d : Option Tmp) (t : TypeId) (z : Array Value) (s : Nat) (vs : Array Value) (n : Option Nat), L[k]? = some (d, .box t z (some (s, vs)) n) → L[s]? = some (none, .put k)
  put : ∀ (k : Nat) (d : Option Tmp) (j : Nat), L[k]? = some (d, .put j) → d = none ∧ needB ops k j = true ∧ ∃ d' t z vs n, L[j]? = some (d', .box t z (some (k, vs)) n)
  ord : ∀ (k : Nat) (hk : k < ops.size), ∀ e ∈ ops[k].after, Region.binds .any e = true → e.on < k
  sel : ∀ (k : Nat) (o : Oper) cs b, ops[k]? = some o → o.op ≠ .select cs b
  uses : ∀ (k : Nat) (o : Oper) (s : Tmp), ops[k]? = some o → Operand.tmp s ∈ o.op.operands → (L.map (·.1)).contains (some s) = false ∨ ∃ j x, L[j]? = some (some s, x) ∧ needB ops k j = true
def BoxEnd (L : Plan) (w0 : World) (p : Nat → Nat) (w : World) : Prop := Below w0.heap.size w0 w ∧
  (∀ (k : Nat) (d : Option Tmp) (t : TypeId) (z : Array Value) (s : Option (Nat × Array Value)) (vs : Option Nat), L[k]? = some (d, .box t z s vs) → w0.heap.size ≤ p k ∧ Row w (p k) t (endC z s)) ∧
  (∀ (k l : Nat) (d : Option Tmp) (t : TypeId) (z : Array Value) (s : Option (Nat × Array Value)) (vs : Option Nat) (d' : Option Tmp) (t' : TypeId) (z' : Array Value) (s' : Option (Nat × Array Value)) (vs' : Option Nat), L[k]? = some (d, .box t z s vs) → L[l]? = some (d', .box t' z' s' vs') → k ≠ l → p k ≠ p l)
theorem BoxI.fin {L : Plan} {a0 : Act} {w0 : World} {N : Nat} (H : PlanOk ops L N) {p : Nat → Nat} {a : Act} {w : World} (I : BoxI L a0 w0 p (Array.replicate ops.size true) a w) : BoxEnd L w0 p w := by
  have hlt : ∀ (k : Nat) (x : Option Tmp × Pl), L[k]? = some x → k < ops.size := fun k x h => by rw [← H.len]; exact (List.getElem?_eq_some_iff.1 h).1
  have tr : ∀ k, k < ops.size → (Array.replicate ops.size true).getD k false = true := fun k hk => getD_at (by simp [hk])
  refine ⟨I.below, fun k d t z s vs hk => ?_, fun k l d t z s vs d' t' z' s' vs' hk hl hne => I.apart k l d t z s vs d' t' z' s' vs' hk hl (tr k (hlt k _ hk)) (tr l (hlt l _ hl)) hne⟩
  have h := I.boxed k d t z s vs hk (tr k (hlt k _ hk))
  rcases s with _ | ⟨s, u⟩
  · exact h
  · simp only [nowC, tr s (hlt s _ (H.store k d t z s u vs hk)), if_true] at h
    exact h
end
section
variable {P : Program} {ops : Array Oper} {Q : Exit → Act → World → Prop} {base : List Value} {rest : List Oper} {l : Slots} {w w0 : World} {rs : List RowK} {L : List Nat}
theorem Many.add {b : Nat} {t : TypeId} {cells : Array Value} (h : Many w0 L rs w) (hr : Row w b t cells) (hb : w0.heap.size ≤ b) (hne : ∀ (i : Nat) (r : RowK), rs[i]? = some r → r.b ≠ b) : Many w0 L (rs ++ [⟨b, t, cells.toList.map some⟩]) w := by
  have at_ : ∀ (i : Nat) (r : RowK), (rs ++ [⟨b, t, cells.toList.map some⟩])[i]? = some r → rs[i]? = some r ∨ (i = rs.length ∧ r = ⟨b, t, cells.toList.map some⟩) := fun i r hr => by
    by_cases hi : i < rs.length
    · rw [List.getElem?_append_left hi] at hr; exact .inl hr
    · rw [List.getElem?_append_right (by omega)] at hr
      cases hk : i - rs.length with
      | zero => rw [hk] at hr; injection hr with hr; exact .inr ⟨by omega, hr.symm⟩
      | succ n => rw [hk] at hr; cases hr
  refine ⟨fun i r hi => ?_, fun i j r q hi hj hij => ?_, fun i r hi => ?_, h.touch⟩
  · rcases at_ i r hi with h1 | ⟨_, rfl⟩
    · exact h.rows i r h1
    · exact ⟨cells, hr, by simp, fun k v hv => by
        have : cells.toList[k]? = some v := by
          rw [List.getElem?_map] at hv
          cases hl : cells.toList[k]? with
          | none => rw [hl] at hv; cases hv
          | some u => rw [hl] at hv; injection hv with hv
        simpa using this⟩
  · rcases at_ i r hi with h1 | ⟨e1, rfl⟩ <;> rcases at_ j q hj with h2 | ⟨e2, rfl⟩
    · exact h.dis i j r q h1 h2 hij
    · exact hne i r h1
    · exact (hne j q h2).symm
    · omega
  · rcases at_ i r hi with h1 | ⟨_, rfl⟩
    · exact h.own i r h1
    · exact .inr hb
theorem Many.lt (h : Many w0 L rs w) (i : Nat) (r : RowK) (hr : rs[i]? = some r) : r.b < w.heap.size := by obtain ⟨full, h1, _⟩ := h.rows i r hr; exact h1.lt
theorem Many.row (h : Many w0 L rs w) (i : Nat) {b : Nat} {t : TypeId} (vs : List Value) (e : rs[i]? = some ⟨b, t, vs.map some⟩) : Row w b t vs.toArray := by
  obtain ⟨full, h1, h2⟩ := h.rows i _ e
  have hfull : full = vs.toArray := by
    apply Array.ext_getElem?
    intro k
    by_cases hk : k < vs.length
    · have : (vs.map some)[k]? = some (some vs[k]) := by rw [List.getElem?_map, List.getElem?_eq_getElem hk]; rfl
      rw [h2.at_ k _ this]
      simp [hk]
    · have hs := h2.size
      rw [List.length_map] at hs
      rw [Array.getElem?_eq_none (by omega)]
      simp [hk]
  rw [← hfull]; exact h1
theorem Many.take (h : Many w0 L rs w) (n : Nat) (rs' : List RowK) (e : rs.take n = rs' := by kernel_rfl) : Many w0 L rs' w := by
  have at_ : ∀ (i : Nat) (r : RowK), rs'[i]? = some r → rs[i]? = some r := fun i r hr => by
    rw [← e, List.getElem?_take] at hr
    split at hr
    · exact hr
    · cases hr
  exact ⟨fun i r hi => h.rows i r (at_ i r hi), fun i j r q hi hj hij => h.dis i j r q (at_ i r hi) (at_ j q hj) hij, fun i r hi => h.own i r (at_ i r hi), h.touch⟩
theorem Many.start {b : Nat} {t : TypeId} {cells : Array Value} (hr : Row w b t cells) : Many w [b] [⟨b, t, cells.toList.map some⟩] w := by
  have at_ : ∀ (i : Nat) (r : RowK), ([⟨b, t, cells.toList.map some⟩] : List RowK)[i]? = some r → i = 0 ∧ r = ⟨b, t, cells.toList.map some⟩ := fun i r hi => by
    cases i with
    | zero => simp at hi; exact ⟨rfl, hi.symm⟩
    | succ i => simp at hi
  refine ⟨fun i r hi => ?_, fun i j r q hi hj hij => ?_, fun i r hi => ?_, .refl ..⟩
  · obtain ⟨-, rfl⟩ := at_ i r hi
    exact ⟨cells, hr, by simp, fun k v hv => by
      have : cells.toList[k]? = some v := by
        rw [List.getElem?_map] at hv
        cases hl : cells.toList[k]? with
        | none => rw [hl] at hv; cases hv
        | some u => rw [hl] at hv; injection hv with hv
      simpa using this⟩
  · have h1 := (at_ i r hi).1
    have h2 := (at_ j q hj).1
    omega
  · obtain ⟨-, rfl⟩ := at_ i r hi
    exact .inl (by simp)
abbrev slotsO (base : List Value) (l : Slots) : Nat → Value := fun i => (ovO base l).getD i undef
def Round {α : Type} (B : α → List Value) (I : α → World → Prop) (μ : α → Nat) (x : α) (a : Act) (w : World) : Prop := ∃ x', a = actO (B x') [] ∧ I x' w ∧ μ x' < μ x
theorem coLoop {α : Type} {c : Code} (B : α → List Value) (I : α → World → Prop) (μ : α → Nat) (x0 : (Nat → Value) → α) (h0 : I (x0 (slotsO base l)) w) (round : ∀ x w, I x w → CO P c (Exit.then (Round B I μ x) Q) (B x) [] w) (e : ovO base l = B (x0 (slotsO base l)) := by kernel_rfl) : CO P (.loop c) Q base l w := ⟨fun hi => by
  have e2 : actO base l = actO (B (x0 (slotsO base l))) [] := by rw [← e]; rfl
  refine wp_loop_ghost (fun n a w => ∃ x, μ x = n ∧ a = actO (B x) [] ∧ I x w) (μ (x0 (slotsO base l))) ⟨_, rfl, e2, h0⟩ ?_
  rintro n a w1 ⟨x, rfl, rfl, hx⟩
  refine wp_mono ((round x w1 hx).h trivial) ?_
  intro e a' w' hq
  cases e with
  | normal =>
    obtain ⟨x', h1, h2, h3⟩ := hq
    exact ⟨μ x', h3, x', rfl, h1, h2⟩
  | _ => exact hq⟩
theorem eoRound {α : Type} {B : α → List Value} {I : α → World → Prop} {μ : α → Nat} {x : α} (x' : (Nat → Value) → α) (hI : I (x' (slotsO base l)) w) (hμ : μ (x' (slotsO base l)) < μ x) (e : ovO base l = B (x' (slotsO base l)) := by kernel_rfl) : EO (Exit.then (Round B I μ x) Q) .normal base l w :=
  ⟨fun hi => ⟨x' (slotsO base l), by rw [← e]; rfl, hI, hμ⟩⟩
end
theorem cells_list_new' (w : World) (cs : List Value) (t : TypeId) : ∀ j u, cs[j]? = some u → (w.alloc (.cells cs.toArray t)).cell? ((⟨w.heap.size, 0, none⟩ : Addr).add j) = some u := by
  intro j u hj
  have h := (Row.new w t cs.toArray).cell j
  have e : (⟨w.heap.size, 0, none⟩ : Addr).add j = ⟨w.heap.size, j, none⟩ := by
    unfold Addr.add
    split
    · rename_i h0; rw [h0]
    · simp
  rw [e, h]
  simpa using hj
theorem own_below {w w' : World} {b : Nat} {e : TypeId} {s : Nat} {v : Value} {n : Nat} {xs : List Value} (h : w.ownsRow b e s v n xs) (k : Below w.heap.size w w') : w'.ownsRow b e s v n xs := by
  refine h.kept (row := none) ⟨k.os, k.tape, k.output, k.size, fun i hi _ => k.block i hi⟩ ?_
  cases e2 : v.ownBlock with
  | none => exact .inl rfl
  | some g => exact .inr (by simp)
theorem grown_below {w W w1 : World} {base : Nat} {e : TypeId} {size : Nat} {v : Value} {n : Nat} {xs : List Value} (h : Below w.heap.size w W) (hg : W.grownBy w1 v.ownBlock) (ho : W.ownsRow base e size v n xs) (hb : w.heap.size ≤ base) : Below w.heap.size w w1 :=
  h.grown hg h.size (fun k e => Nat.le_trans hb (ho.lt k e).1)
def bvs (l : List Int) : List Value := l.map fun x => .int .u8 x
theorem u8_info : (Tryz.prog.info? 5).map (fun i => (i.zero, i.size, i.bytes)) = some (some (.int .u8 0), 1, 1) := by kernel_rfl
theorem bvs_one (l : List Int) : ∀ u ∈ bvs l, u.oneCell' = true := by
  intro u hu
  unfold bvs at hu
  rw [List.mem_map] at hu
  obtain ⟨x, -, rfl⟩ := hu
  rfl
theorem bvs_append (l m : List Int) : bvs l ++ bvs m = bvs (l ++ m) := by simp [bvs]
theorem bvs_length (l : List Int) : (bvs l).length = l.length := by simp [bvs]
theorem own_bytes {w : World} {b n c : Nat} {Av : Option Addr} {l : List Int} (h : w.ownsRow b 5 1 (.slice Av n c) n (bvs l)) : BytesIn w w.heap.size Av l := by
  rcases h.2 with ⟨e1, e2⟩ | ⟨g, cap, cur, e1, -, hh, -⟩
  · have h1 := h.1
    rw [bvs_length, e2] at h1
    obtain rfl : l = [] := List.eq_nil_of_length_eq_zero (by omega)
    exact BytesIn.nil _ _ _
  · injection e1 with e3 e4 e5
    subst e3
    intro j x hx
    refine ⟨_, rfl, (Array.getElem?_eq_some_iff.1 hh).1, h.cells (g := g) rfl j _ ?_⟩
    unfold bvs
    rw [List.getElem?_map, hx]
    rfl
theorem wpList_append_bytes {ops : Array Oper} {rest : List Oper} {o : Oper} {a : Act} {w : World} {Q : Exit → Act → World → Prop} (hgd : o.guard = none) (s x : Operand)
    (ho : o.op = .call { callee := .builtin .append, args := #[s, x], argTypes := #[26, 26] })
    (w0 : World) (base B : Nat) (hB : Below w0.heap.size w0 w) (hb0 : w0.heap.size ≤ base) (hbase : base ≤ w.heap.size)
    (v : Value) (n : Nat) (l : List Int) (hs : a.eval s = v) (hown : w.ownsRow base 5 1 v n (bvs l))
    (A : Option Addr) (c : Nat) (ys : List Int) (hx : a.eval x = .slice A ys.length c) (hy : BytesIn w B A ys) (hn : A = none → c = 0) (hmax : n + ys.length ≤ 140737488355328)
    (h : ∀ v' w', w'.ownsRow base 5 1 v' (n + ys.length) (bvs (l ++ ys)) → Below w0.heap.size w0 w' → base ≤ w'.heap.size → wpList Tryz.prog ops Q rest (a.put o.dst v') w') :
    wpList Tryz.prog ops Q (o :: rest) a w := by
  obtain ⟨i0, hi0, hz0, hz1, hz2⟩ := info_parts u8_info
  rcases A with _ | p
  · obtain rfl := hn rfl
    have hy0 : ys = [] := by
      cases ys with
      | nil => rfl
      | cons y ys' =>
        obtain ⟨ad, e, -⟩ := hy 0 y rfl
        cases e
    subst hy0
    refine wpList_append_own_none hgd s x _ ho base 5 i0 1 Tryz.underlying26 hi0 v n (bvs l) hs hown hx ?_
    exact h v w (by simpa using hown) hB hbase
  · refine wpList_append_own_at _ hgd s x _ ho base 5 i0 _ 1 1 Tryz.underlying26 hi0 hz0 hz1 hz2 rfl (by omega) v n (bvs l) hs hown p ys.length c (bvs ys) hx (by rw [bvs_length]; omega) (fun j u hj => ?_) (bvs_one ys) (by simp only [maxLen]; omega) (by omega) hbase ?_
    · unfold bvs at hj
      rw [List.getElem?_map] at hj
      obtain ⟨y, hy1, hy2⟩ := Option.map_eq_some_iff.1 hj
      obtain ⟨ad, e1, -, e2⟩ := hy j y hy1
      cases e1
      rw [e2, ← hy2]
    · intro v' w' own' hg _ _
      rw [bvs_append] at own'
      exact h v' w' own' (grown_below hB hg hown hb0) (Nat.le_trans hbase hg.size)
theorem own_slice {W : World} {b n : Nat} {v : Value} {l : List Int} (h : W.ownsRow b 5 1 v n (bvs l)) : ∃ A c, v = .slice A n c ∧ n ≤ c ∧ BytesIn W W.heap.size A l ∧ (A = none → c = 0) := by
  rcases h.2 with ⟨e1, e2⟩ | ⟨g, c, cur, e1, -, -, hle, -⟩
  · subst e1 e2
    exact ⟨none, 0, rfl, Nat.le_refl _, own_bytes h, fun _ => rfl⟩
  · subst e1
    exact ⟨_, c, rfl, hle, own_bytes h, fun e => by cases e⟩
section
variable {ops : Array Oper} {Q : Exit → Act → World → Prop} {base : List Value} {rest : List Oper} {l : Slots} {w : World} {o : Oper}
theorem qA {o : Oper} (s x : Operand) (w0 : World) (bs B : Nat) (v : Value) (n : Nat) (got : List Int) (A : Option Addr) (c : Nat) (ys : List Int) (hB : Below w0.heap.size w0 w) (hb0 : w0.heap.size ≤ bs) (hbs : bs ≤ w.heap.size)
    (hown : w.ownsRow bs 5 1 v n (bvs got)) (hy : BytesIn w B A ys) (hn : A = none → c = 0) (hmax : n + ys.length ≤ 140737488355328)
    (h : ∀ v' w', w'.ownsRow bs 5 1 v' (n + ys.length) (bvs (got ++ ys)) → Below w0.heap.size w0 w' → bs ≤ w'.heap.size → WO Tryz.prog ops Q base rest (putO o.dst v' l) w')
    (ho : o.op = .call { callee := .builtin .append, args := #[s, x], argTypes := #[26, 26] } := by exact rfl) (hg : o.guard = none := by exact rfl) (hs : evO base l s = v := by kernel_rfl) (hx : evO base l x = .slice A ys.length c := by kernel_rfl) (hd : dstO o.dst base.length = true := by kernel_rfl) : WO Tryz.prog ops Q base (o :: rest) l w :=
  ⟨fun hi => ⟨wpList_append_bytes hg s x ho w0 bs B hB hb0 hbs v n got (by rw [evO_eq hi]; exact hs) hown A c ys (by rw [evO_eq hi]; exact hx) hy hn hmax fun v' w' h1 h2 h3 => by rw [put_actO]; exact ((h v' w' h1 h2 h3).h (inO_put hd hi)).h⟩⟩
end
section
variable {P : Program} {ops : Array Oper} {Q : Exit → Act → World → Prop} {base : List Value} {rest : List Oper} {l : Slots} {w : World} {o : Oper}
theorem list_turn {rest : List Oper} {o : Oper} {a : Act} {w w' : World} (v : Value) (hw : Region.wanted o (yielded ops a.tmps) = true) (he : (execOp a.eval o).run P w = .ok (.value v) w')
    (h : WL P ops Q rest (a.put o.dst v) w') : WL P ops Q (o :: rest) a w :=
  ⟨wpList_step fun K hK => by
    rw [if_pos hw]
    unfold Oper.wp
    rw [he, Oper.upon_value]
    exact hK _ _ h.h⟩
theorem wM {V : Value} {w' : World} (he : (execOp (evO base l) o).run P w = .ok (.value V) w') (h : WO P ops Q base rest (putO o.dst V l) w') (hg : wantO ops base.length base l o = some true := by kernel_rfl) (hd : dstO o.dst base.length = true := by kernel_rfl) : WO P ops Q base (o :: rest) l w :=
  ⟨fun hi => list_turn V (wantO_sound hg hi) (by rw [evO_eq hi]; exact he) (by rw [put_actO]; exact h.h (inO_put hd hi))⟩
theorem wD {w' : World} (he : (execOp (evO base l) o).run P w = .ok .skip w') (h : WO P ops Q base rest l w') (hd : o.dst = none := by exact rfl) (hg : wantO ops base.length base l o = some true := by kernel_rfl) : WO P ops Q base (o :: rest) l w :=
  ⟨fun hi => list_do hd (wantO_sound hg hi) (by rw [evO_eq hi]; exact he) (h.h hi)⟩
theorem kX {g : FuncId} {args : Array Value} {R : Ending → World → Prop} (hc : Calls P g args w R) (h : ∀ e w', R e w' → ∃ V, e = .returned V ∧ WO P ops Q base rest (putO o.dst V l) w')
    (hg : wantO ops base.length base l o = some true := by kernel_rfl) (he : (execOp (evO base l) o).run P w = .ok (.enter g args) w := by kernel_rfl) (hd : dstO o.dst base.length = true := by kernel_rfl) : WO P ops Q base (o :: rest) l w :=
  woCall hg he hd hc fun e w' hR => by
    obtain ⟨V, rfl, hV⟩ := h e w' hR
    exact hV
end
theorem three_ne {a b c x : Nat} {t u v : TypeId} {cs ds es : Cells} (h : a ≠ x) (k : b ≠ x) (m : c ≠ x) : ∀ (i : Nat) (r : RowK), ([⟨a, t, cs⟩, ⟨b, u, ds⟩, ⟨c, v, es⟩] : List RowK)[i]? = some r → r.b ≠ x := fun i r hi => by
  match i with
  | 0 => cases hi; exact h
  | 1 => cases hi; exact k
  | 2 => cases hi; exact m
  | i + 3 => cases hi
theorem plane_row {w : World} {b : Nat} {t : TypeId} {xs : List Int} (h : Row w b t (bvs xs).toArray) : BytesIn w w.heap.size (some ⟨b, 0, none⟩) xs := fun j x hx => by
  refine ⟨_, rfl, h.lt, ?_⟩
  rw [show (⟨b, 0, none⟩ : Addr).add j = ⟨b, j, none⟩ by simp [Addr.add]; omega, h.cell j]
  simp [bvs, hx]
theorem below_some {n b : Nat} {w W w1 : World} (h : Below n w W) (hg : W.grownBy w1 (some b)) (hb : n ≤ b) (hn : n ≤ W.heap.size) : Below n w w1 := h.grown hg hn fun k e => by cases e; exact hb
theorem bAlloc {w W : World} (h : Below w.heap.size w W) (o : Obj) : Below w.heap.size w (W.alloc o) := Below.alloc h h.size _
theorem bOn {w W W' : World} {rs : List RowK} (h : Below w.heap.size w W) (k : Many W [] rs W') : Below w.heap.size w W' := h.trans (k.touch.below.mono h.size)
theorem Many.allocO {w0 w : World} {L : List Nat} {rs : List RowK} (h : Many w0 L rs w) (o : Obj) : Many w0 L rs (w.alloc o) := h.below (Below.alloc (Below.refl _ _) (Nat.le_refl _) _)
theorem Many.grown {w0 w w' : World} {L : List Nat} {rs : List RowK} {b : Nat} (h : Many w0 L rs w) (k : w.grownBy w' (some b)) (hb : w0.heap.size ≤ b) (hn : ∀ (i : Nat) (r : RowK), rs[i]? = some r → r.b ≠ b) : Many w0 L rs w' :=
  ⟨fun i r hr => by obtain ⟨full, h1, h2⟩ := h.rows i r hr; exact ⟨full, h1.of (k.block r.b h1.lt (by simpa using hn i r hr)), h2⟩, h.dis, h.own,
    ⟨k.os.trans h.touch.os, k.tape.trans h.touch.tape, k.output.trans h.touch.output, Nat.le_trans h.touch.size k.size, fun c hc hL => (k.block c (Nat.lt_of_lt_of_le hc h.touch.size) (by simp; omega)).trans (h.touch.block c hc hL)⟩⟩
section
variable {P : Program} {ρ : Operand → Value} {o : Oper} {x y z : Operand} {V W R U : Value}
theorem xLookup {t : TypeId} {w : World} {c : Bool} (hl : (Instr.lookup t V W c).run P w = .ok R w) (ho : o.op = .lookup t x y c := by exact rfl) (hx : ρ x = V := by kernel_rfl) (hy : ρ y = W := by kernel_rfl) : (execOp ρ o).run P w = .ok (.value R) w := by
  unfold execOp
  simp only [ho, hx, hy, Sem.run_bind, Sem.run_pure, hl, Result.andThen_ok]
theorem xMakeMap {t : TypeId} {w w' : World} (hl : (Instr.makeMap t none).run P w = .ok R w') (ho : o.op = .makeMap t none := by exact rfl) : (execOp ρ o).run P w = .ok (.value R) w' := by
  unfold execOp
  simp only [ho, Option.map_none, Sem.run_bind, Sem.run_pure, hl, Result.andThen_ok]
theorem xIndex {t : TypeId} {w : World} (hl : (Instr.indexAt t V W).run P w = .ok R w) (ho : o.op = .indexAddr t x y := by exact rfl) (hx : ρ x = V := by kernel_rfl) (hy : ρ y = W := by kernel_rfl) : (execOp ρ o).run P w = .ok (.value R) w := by
  unfold execOp
  simp only [ho, hx, hy, Sem.run_bind, Sem.run_pure, hl, Result.andThen_ok]
theorem xBin {op : BinOp} {t r : TypeId} {w : World} (hg : (eqGuard op t x y V W).run P w = .ok () w) (hb : (binOp op t V W).run P w = .ok R w) (ho : o.op = .binOp op t x y r := by exact rfl) (hx : ρ x = V := by kernel_rfl) (hy : ρ y = W := by kernel_rfl) : (execOp ρ o).run P w = .ok (.value R) w := by
  unfold execOp
  simp only [ho, hx, hy, Sem.run_bind, Sem.run_pure, hg, hb, Result.andThen_ok]
theorem xLoad {t : TypeId} {w : World} (hl : (Instr.loadAt t V).run P w = .ok R w) (ho : o.op = .load t x := by exact rfl) (hx : ρ x = V := by kernel_rfl) : (execOp ρ o).run P w = .ok (.value R) w := by
  unfold execOp
  simp only [ho, hx, Sem.run_bind, Sem.run_pure, hl, Result.andThen_ok]
theorem xBuildS {t : TypeId} {n : Nat} {parts : Array (Nat × Operand)} {ps : Array (Nat × Value)} {w w' : World} (h : (Instr.buildSlice t n ps).run P w = .ok V w') (ho : o.op = .buildSlice t n parts := by exact rfl) (hx : (parts.map fun (i, x) => (i, ρ x)) = ps := by kernel_rfl) : (execOp ρ o).run P w = .ok (.value V) w' := by
  unfold execOp
  simp only [ho, hx, Sem.run_bind, Sem.run_pure, h, Result.andThen_ok]
theorem xConv {P : Program} {ρ : Operand → Value} {o : Oper} {x : Operand} {V R : Value} {s t : TypeId} {w : World} (hc : (convert s t V).run P w = .ok R w) (ho : o.op = .convert s t x := by exact rfl) (hx : ρ x = V := by kernel_rfl) : (execOp ρ o).run P w = .ok (.value R) w := by
  unfold execOp
  simp only [ho, hx, Sem.run_bind, Sem.run_pure, hc, Result.andThen_ok]
theorem xSlice {P : Program} {ρ : Operand → Value} {o : Oper} {x : Operand} {V R : Value} {t : TypeId} {lo hi mx : Option Operand} {l m n : Option Value} {w : World} (h : (Instr.sliceAt t V l m n).run P w = .ok R w) (ho : o.op = .slice t x lo hi mx := by exact rfl) (hx : ρ x = V := by kernel_rfl) (hl : lo.map ρ = l := by kernel_rfl) (hh : hi.map ρ = m := by kernel_rfl) (hm : mx.map ρ = n := by kernel_rfl) : (execOp ρ o).run P w = .ok (.value R) w := by
  unfold execOp
  simp only [ho, hx, hl, hh, hm, Sem.run_bind, Sem.run_pure, h, Result.andThen_ok]
theorem xStore {P : Program} {ρ : Operand → Value} {o : Oper} {x y : Operand} {V W : Value} {t : TypeId} {w w' : World} (h : (Instr.storeAt t V W).run P w = .ok () w') (ho : o.op = .store t x y := by exact rfl) (hx : ρ x = V := by kernel_rfl) (hy : ρ y = W := by kernel_rfl) : (execOp ρ o).run P w = .ok .skip w' := by
  unfold execOp
  simp only [ho, hx, hy, Sem.run_bind, Sem.run_pure, h, Result.andThen_ok]
end
section
variable {ρ : Operand → Value} {o : Oper} {x y : Operand}
theorem add_i64 (k : Nat) (h : k < 4611686018427387904) (w : World) : (binOp .add 3 (.int .i64 (k : Int)) (.int .i64 1)).run Tryz.prog w = .ok (.int .i64 ((k + 1 : Nat) : Int)) w := by
  have e : IntKind.i64.wrap ((k : Int) + 1) = ((k + 1 : Nat) : Int) := by simp [IntKind.wrap, IntKind.bits, IntKind.signed]; omega
  simp [go_sem, e]
theorem xInc (k : Nat) (h : k < 4611686018427387904) {r : TypeId} {w : World} (ho : o.op = .binOp .add 3 x y r := by exact rfl) (hx : ρ x = .int .i64 (k : Int) := by kernel_rfl) (hy : ρ y = .int .i64 1 := by kernel_rfl) : (execOp ρ o).run Tryz.prog w = .ok (.value (.int .i64 ((k + 1 : Nat) : Int))) w :=
  xBin (by simp [go_sem]) (add_i64 k h w) ho hx hy
theorem ldD {w : World} {p : Addr} {V : Value} (h : w.cell? p = some V) : (Instr.loadAt 5 (.pointer (some p))).run Tryz.prog w = .ok V w := by simp [go_sem, h]
theorem ixB (p : Addr) (n c k : Nat) (h : k < n) (w : World) : (Instr.indexAt 26 (.slice (some p) n c) (.int .i64 (k : Int))).run Tryz.prog w = .ok (.pointer (some (p.add k))) w := by
  simp [go_sem, h]
theorem guard16 (op : BinOp) (x y : Operand) (a b : Int) (w : World) : (eqGuard op 22 x y (.int .u16 a) (.int .u16 b)).run Tryz.prog w = .ok () w := by simp [go_sem]
theorem BytesIn.ld {w : World} {B : Nat} {p : Addr} {xs : List Int} (h : BytesIn w B (some p) xs) {k : Nat} (hk : k < xs.length) : (Instr.loadAt 5 (.pointer (some (p.add k)))).run Tryz.prog w = .ok (.int .u8 xs[k]) w := by
  obtain ⟨q, e, -, h1⟩ := h k _ (List.getElem?_eq_getElem hk)
  cases e
  exact ldD h1
theorem BytesIn.addr {w : World} {B : Nat} {A : Option Addr} {xs : List Int} (h : BytesIn w B A xs) {k : Nat} (hk : k < xs.length) : ∃ p, A = some p := by
  obtain ⟨q, e, -⟩ := h k _ (List.getElem?_eq_getElem hk)
  exact ⟨q, e⟩
end
structure EvQ where
  ok : Bool
  l : Slots
  fs : List ((World → Result Next) × (World → Result Next))
def evq (P : Program) (ops : Array Oper) (W : World) (n : Nat) (base : List Value) : List Oper → Slots → List ((World → Result Next) × (World → Result Next)) → EvQ
  | [], l, fs => ⟨true, l, fs⟩
  | o :: r, l, fs => match wantO ops n base l o with
    | some true => match evP P W n base l o with
      | some (l', gs) => evq P ops W n base r l' (gs ++ fs)
      | none => ⟨false, l, fs⟩
    | some false => match o.dst with
      | some d => bif Nat.blt d n then evq P ops W n base r ((d, undef) :: l) fs else ⟨false, l, fs⟩
      | none => ⟨false, l, fs⟩
    | none => ⟨false, l, fs⟩
def okQ (E : EvQ) : Prop := (E.ok, E.fs.map (·.1)) = (true, E.fs.map (·.2))
section
variable {P : Program} {ops : Array Oper} {Q : Exit → Act → World → Prop} {S : World → Prop} {base : List Value} {l : Slots} {w w0 : World} {o : Oper}
theorem evq_mem {W : World} : ∀ (os : List Oper) (l : Slots) (fs), (evq P ops W base.length base os l fs).ok = true → ∀ x ∈ fs, x ∈ (evq P ops W base.length base os l fs).fs
  | [], _, _, _ => fun _ h => h
  | o :: r, l, fs, hok => by
    unfold evq at hok ⊢
    split at hok
    · split at hok
      · rename_i l' gs he
        exact fun x hx => evq_mem r l' (gs ++ fs) hok x (List.mem_append_right _ hx)
      · cases hok
    · split at hok
      · rename_i d hd
        cases hn : Nat.blt d base.length <;> rw [hn] at hok
        · cases hok
        · exact evq_mem r _ fs hok
      · cases hok
    · cases hok
theorem pure_run {W : World} {n : Nat} (hB : partB ops n = true) (hQ : ∀ d v c a w, Q (.panic c) (a.put d v) w → Q (.panic c) a w) :
    ∀ (is : List Nat) (f : Nat) (listed : Array Bool) (l : Slots) (fs) (w : World), (evq P ops W base.length base (atO ops is) l fs).ok = true → (∀ x ∈ (evq P ops W base.length base (atO ops is) l fs).fs, x.1 = x.2) →
    ordB ops n is listed = true → S w → PO P ops Q S n base f (setO is listed) (evq P ops W base.length base (atO ops is) l fs).l w → PO P ops Q S n base (f + is.length) listed l w
  | [], f, listed, l, fs, w, _, _, _, _, h => h
  | i :: r, f, listed, l, fs, w, hok, hf, ho, hS, h => by
    simp only [ordB, Bool.and_eq_true] at ho
    obtain ⟨h1, h2, h3, h4, h5⟩ := ho
    obtain ⟨o, hoi⟩ := Option.isSome_iff_exists.1 h1
    have hat : atO ops (i :: r) = o :: atO ops r := by rw [atO, hoi]
    rw [hat] at hok hf h
    unfold evq at hok hf h
    split at hok
    case h_2 hw =>
      simp only [hw] at hf h
      split at hok
      · rename_i d hd
        simp only [hd] at hf h
        cases hn : Nat.blt d base.length <;> rw [hn] at hok
        · cases hok
        · simp only [hn, cond_true] at hf h
          have := pure_run hB hQ r f (listed.setIfInBounds i true) _ fs w hok hf h5 hS h
          refine ⟨fun hi => part_skip d hd hoi hB h2 h3 h4 (by rw [hd]; exact hQ (some d) undef) (wantO_sound hw hi) hS ?_⟩
          rw [put_actO]
          exact this.h ⟨by simpa [Nat.blt_eq] using hn, hi⟩
      · cases hok
    case h_3 => cases hok
    case h_1 hw =>
    simp only [hw] at hf h
    split at hok
    · rename_i l' gs he
      simp only [he] at hf h
      have hm := evq_mem (atO ops r) l' (gs ++ fs) hok
      have key : ∃ d v, o.dst = some d ∧ Nat.blt d base.length = true ∧ l' = (d, v) :: l ∧ ∀ w', (execOp (evO base l) o).run P w' = .ok (.value v) w' := by
        unfold evP at he
        split at he
        · rename_i d x hd hop
          cases hlt : Nat.blt d base.length <;> rw [hlt] at he
          · cases he
          · injection he with he; injection he with e1 e2
            exact ⟨d, _, hd, hlt, e1.symm, fun w' => exMove (.inl hop) w'⟩
        · rename_i d x hd hop
          cases hlt : Nat.blt d base.length <;> rw [hlt] at he
          · cases he
          · injection he with he; injection he with e1 e2
            exact ⟨d, _, hd, hlt, e1.symm, fun w' => exMove (.inr hop) w'⟩
        · rename_i d hd n1 n2
          split at he
          · rename_i v w1 hv
            cases hlt : Nat.blt d base.length <;> rw [hlt] at he
            · cases he
            · injection he with he; injection he with e1 e2
              exact ⟨d, v, hd, hlt, e1.symm, fun w' => congrFun (hf _ (hm _ (List.mem_append_left _ (by rw [← e2]; exact List.mem_cons_self)))) w'⟩
          · cases he
        · cases he
      obtain ⟨d, v, hd, hn, el, hv⟩ := key
      have := pure_run hB hQ r f (listed.setIfInBounds i true) l' (gs ++ fs) w hok hf h5 hS h
      rw [el] at this
      refine ⟨fun hi => part_take d v hd hoi hB h2 h3 h4 (by rw [hd]; exact hQ (some d) v) (wantO_sound hw hi) (fun w' hs => by rw [evO_eq hi]; exact hv w') hS ?_⟩
      rw [put_actO]
      exact this.h ⟨by simpa [Nat.blt_eq] using hn, hi⟩
    · cases hok
theorem qM {n f : Nat} {listed : Array Bool} (is : List Nat) (hS : S w) (h : PO P ops Q S n base (f - is.length) (setO is listed) (evq P ops w base.length base (atO ops is) l []).l w)
    (hk : okQ (evq P ops w base.length base (atO ops is) l []) := by unfold okQ; kernel_rfl) (ha : (ordB ops n is listed && (partB ops n && Nat.ble is.length f)) = true := by kernel_rfl)
    (hQ : ∀ d v c a w, Q (.panic c) (a.put d v) w → Q (.panic c) a w := by intro d _ _ _ _ h; cases d <;> exact h) : PO P ops Q S n base f listed l w := by
  simp only [Bool.and_eq_true] at ha
  obtain ⟨a2, a3, a4⟩ := ha
  simp only [okQ, Prod.mk.injEq] at hk
  obtain ⟨h1, h3⟩ := hk
  have hle : is.length ≤ f := by simpa using a4
  have := pure_run (S := S) (base := base) (W := w) a3 hQ is (f - is.length) listed l [] w h1 (pairs_eq h3) a2 hS h
  rwa [Nat.sub_add_cancel hle] at this
def opNo (ops : Array Oper) (i : Nat) : Oper := (ops[i]?).getD { dst := none, op := .move (.const undef), type := 0, pos := "", after := #[], guard := none }
theorem opNo_eq {ops : Array Oper} {i : Nat} (h : (ops[i]?).isSome = true) : ops[i]? = some (opNo ops i) := by
  unfold opNo
  cases e : ops[i]? with
  | none => rw [e] at h; cases h
  | some o => rfl
theorem qT {n f : Nat} {listed : Array Bool} {V : Value} (i : Nat) (hS : S w) (he : ∀ w', S w' → (execOp (evO base l) (opNo ops i)).run P w' = .ok (.value V) w') (h : PO P ops Q S n base (f - 1) (listed.setIfInBounds i true) (putO (opNo ops i).dst V l) w)
    (hd : ((opNo ops i).dst.isSome, dstO (opNo ops i).dst base.length, wantO ops base.length base l (opNo ops i)) = (true, true, some true) := by kernel_rfl) (ha : (ordB ops n [i] listed && (partB ops n && Nat.blt 0 f)) = true := by kernel_rfl)
    (hQ : ∀ d v c a w, Q (.panic c) (a.put d v) w → Q (.panic c) a w := by intro d _ _ _ _ h; cases d <;> exact h) : PO P ops Q S n base f listed l w := by
  simp only [Prod.mk.injEq] at hd
  obtain ⟨d1, d2, d3⟩ := hd
  simp only [ordB, Bool.and_eq_true] at ha
  obtain ⟨⟨a1, a2, a3, a4, -⟩, a5, a6⟩ := ha
  have ho := opNo_eq a1
  obtain ⟨d, hd⟩ := Option.isSome_iff_exists.1 d1
  have hf : f = (f - 1) + 1 := by have : 0 < f := by simpa [Nat.blt_eq] using a6
                                  omega
  rw [hf]
  refine ⟨fun hi => part_take d V hd ho a5 a2 a3 a4 (by rw [hd]; exact hQ (some d) V) (wantO_sound d3 hi) (fun w' hs => by rw [evO_eq hi]; exact he w' hs) hS ?_⟩
  rw [← hd, put_actO]
  exact h.h (inO_put d2 hi)
structure SO (P : Program) (ops : Array Oper) (Q : Exit → Act → World → Prop) (S : World → Prop) (n : Nat) (base : List Value) (f : Nat) (listed : Array Bool) (i : Nat) (l : Slots) (w : World) : Prop where
  h : inO base.length l → i ∈ Region.ready .any ops listed → HeadInv .any ops n listed → i < n ∧ wpOp P ops Q i (fun a' w' => S w' ∧ wpAnyT P .any ops Q S n (tailL P ops Q n) f (listed.setIfInBounds i true) a' w') (actO base l) w
theorem poOne {n f : Nat} {listed : Array Bool} (i : Nat) (h : SO P ops Q S n base (f - 1) listed i l w) (hr : (Region.ready .any ops listed, Nat.blt 0 f) = ([i], true) := by kernel_rfl) : PO P ops Q S n base f listed l w := by
  simp only [Prod.mk.injEq] at hr
  have hf : f = (f - 1) + 1 := by have : 0 < f := by simpa [Nat.blt_eq] using hr.2
                                  omega
  rw [hf]
  refine ⟨fun hi inv => ⟨by rw [hr.1]; simp, fun k hk => ?_⟩⟩
  have hk' := hk
  rw [hr.1] at hk
  obtain rfl : k = i := by simpa using hk
  exact h.h hi hk' inv
theorem soC {n f i : Nat} {listed : Array Bool} {g : FuncId} {args : Array Value} {R : Ending → World → Prop} (hc : Calls P g args w R) (h : ∀ e w', R e w' → ∃ V, e = .returned V ∧ S w' ∧ PO P ops Q S n base f (listed.setIfInBounds i true) (putO (opNo ops i).dst V l) w')
    (hd : (dstO (opNo ops i).dst base.length, decide (i < n), wantO ops base.length base l (opNo ops i), (ops[i]?).isSome) = (true, true, some true, true) := by kernel_rfl) (he : (execOp (evO base l) (opNo ops i)).run P w = .ok (.enter g args) w := by kernel_rfl) : SO P ops Q S n base f listed i l w := by
  simp only [Prod.mk.injEq] at hd
  obtain ⟨d1, d2, d3, d4⟩ := hd
  have ho := opNo_eq d4
  refine ⟨fun hi hr inv => ⟨of_decide_eq_true d2, ?_⟩⟩
  unfold wpOp
  simp only [ho, wantO_sound d3 hi, if_true]
  refine .inl ?_
  unfold Oper.wp
  rw [evO_eq hi, he, Oper.upon_enter]
  refine hc.mono fun e w' hR => ?_
  obtain ⟨V, rfl, hS, hp⟩ := h e w' hR
  dsimp only
  rw [put_actO]
  exact ⟨hS, hp.h (inO_put d1 hi) (inv.set hr (of_decide_eq_true d2))⟩
end
abbrev blocksO (rs : List RowK) : List Nat := rs.map (·.b)
theorem Many.rebase {w0 w : World} {L : List Nat} {rs : List RowK} (h : Many w0 L rs w) : Many w (blocksO rs) rs w :=
  ⟨h.rows, h.dis, fun i r hr => .inl (List.mem_map.2 ⟨r, List.mem_of_getElem? hr, rfl⟩), .refl ..⟩
theorem Many.anew {w0 w w' : World} {L : List Nat} {rs : List RowK} {b : Nat} (h : Many w0 L rs w) (k : w.grownBy w' (some b)) (hn : ∀ (i : Nat) (r : RowK), rs[i]? = some r → r.b ≠ b) : Many w' (blocksO rs) rs w' :=
  ⟨fun i r hr => by obtain ⟨full, h1, h2⟩ := h.rows i r hr; exact ⟨full, h1.of (k.block r.b h1.lt (by simpa using hn i r hr)), h2⟩, h.dis, fun i r hr => .inl (List.mem_map.2 ⟨r, List.mem_of_getElem? hr, rfl⟩), .refl ..⟩
theorem Many.rebaseL {w0 w : World} {L : List Nat} {rs : List RowK} (h : Many w0 L rs w) (L' : List Nat) (e : blocksO rs = L' := by kernel_rfl) : Many w L' rs w := e ▸ h.rebase
theorem Many.anewL {w0 w w' : World} {L : List Nat} {rs : List RowK} {b : Nat} (h : Many w0 L rs w) (k : w.grownBy w' (some b)) (L' : List Nat) (hn : ∀ x ∈ L', x ≠ b) (e : blocksO rs = L' := by kernel_rfl) : Many w' L' rs w' := by
  subst e
  exact h.anew k fun i r hr => hn _ (List.mem_map.2 ⟨r, List.mem_of_getElem? hr, rfl⟩)
theorem Touch.underL {L : List Nat} {n : Nat} {w w' w1 : World} (h : Touch L w w') (k : Below n w1 w) (hL : ∀ b ∈ L, n ≤ b) (hn : n ≤ w.heap.size) : Below n w1 w' :=
  ⟨h.os.trans k.os, h.tape.trans k.tape, h.output.trans k.output, Nat.le_trans k.size h.size, fun b hb => (h.block b (Nat.lt_of_lt_of_le hb hn) fun hm => by have := hL b hm; omega).trans (k.block b hb)⟩
theorem Many.low {w0 w : World} {rs : List RowK} (h : Many w0 [] rs w) : ∀ b ∈ blocksO rs, w0.heap.size ≤ b := fun b hb => by
  obtain ⟨r, hr, rfl⟩ := List.mem_map.1 hb
  obtain ⟨i, hi⟩ := List.getElem?_of_mem hr
  rcases h.own i r hi with e | e
  · cases e
  · exact e
theorem run_insert_any {P : Program} (W : World) (t kt et : TypeId) (ht : P.underlying t = some (.map kt et)) (hk : P.underlying kt = some (.int .i64)) (es : List MapEntry) (clock : Nat) (n : Int) (val : Value) (b : Nat)
    (hb : W.heap[b]? = some (.map es.toArray clock)) (hnew : Instr.findNow (.int .i64) (.int .i64 n) es 0 = some none) :
    ∃ W', (Instr.mapUpdate t (.map (some b)) (.int .i64 n) val).run P W = .ok () W' ∧ W'.heap[b]? = some (.map (es ++ [({ key := .int .i64 n, val := val, born := clock } : MapEntry)]).toArray (clock + 1)) ∧ W.grownBy W' (some b) := by
  have hlt := (Array.getElem?_eq_some_iff.1 hb).1
  refine ⟨{ W with heap := W.heap.setIfInBounds b (.map (es ++ [({ key := .int .i64 n, val := val, born := clock } : MapEntry)]).toArray (clock + 1)) }, ?_, by simp [hlt], ⟨rfl, rfl, rfl, by simp, fun i hi hne => by
    show (W.heap.setIfInBounds b _)[i]? = _
    rw [Array.getElem?_setIfInBounds]
    rw [if_neg (fun e => hne (by rw [e]))]⟩⟩
  simp [Instr.mapUpdate, run_underlying ht, MapKept.run_getObj_map hb, MapKept.run_checkKey hk (k := .int .i64 n) (by simp [MapKept.IsKey]) false 9999, MapKept.run_findKey hk hnew, MapKept.run_setObj_map _ hb, Result.andThen]
section
variable {P : Program} {ρ : Operand → Value} {o : Oper} {x y z : Operand} {V W R U : Value}
theorem xInsert {t : TypeId} {w w' : World} (hl : (Instr.mapUpdate t V W U).run P w = .ok () w') (ho : o.op = .insert t x y z := by exact rfl) (hx : ρ x = V := by kernel_rfl) (hy : ρ y = W := by kernel_rfl) (hz : ρ z = U := by kernel_rfl) : (execOp ρ o).run P w = .ok .skip w' := by
  unfold execOp
  simp only [ho, hx, hy, hz, Sem.run_bind, Sem.run_pure, hl, Result.andThen_ok]
end
end Go.Proofs.YtkenebbjodcbcaaGreatDoor
