/- A whole array, or struct, stored into a new block and loaded from there, by value, without a step for each cell. Nothing of the program. -/
import Derived.Test.YtahnejcfengljaaMem
import Derived.Deep.MidRow
import Derived.Laws.NewBlocks
import Derived.Laws.Tables
namespace Go.Proofs.Ytahnejcfengljaa
open Go.RowKit
set_option linter.unusedVariables false

/-- cells with others laid over them, from the place o on -/
def ovr (cs : Array Value) : Nat → List Value → Array Value
  | _, [] => cs
  | o, v :: r => ovr (cs.setIfInBounds o v) (o + 1) r
theorem ovr_size : ∀ (vs : List Value) (o : Nat) (cs : Array Value), (ovr cs o vs).size = cs.size
  | [], _, _ => rfl
  | v :: r, o, cs => by rw [ovr, ovr_size r]; simp
theorem ovr_get : ∀ (vs : List Value) (o : Nat) (cs : Array Value) (i : Nat), (ovr cs o vs)[i]? = if o ≤ i ∧ i < o + vs.length ∧ i < cs.size then vs[i - o]? else cs[i]?
  | [], o, cs, i => by
    rw [if_neg (by rintro ⟨h1, h2, h3⟩; simp at h2; omega)]
    rfl
  | v :: r, o, cs, i => by
    rw [ovr, ovr_get r (o + 1) (cs.setIfInBounds o v) i, List.length_cons, Array.size_setIfInBounds, Array.getElem?_setIfInBounds]
    by_cases h1 : o = i
    · subst h1
      rw [if_neg (by omega), if_pos rfl]
      by_cases h3 : o < cs.size
      · rw [if_pos h3, if_pos (by omega), Nat.sub_self]
        rfl
      · rw [if_neg h3, if_neg (by omega), Array.getElem?_eq_none (by omega)]
    · rw [if_neg h1]
      by_cases h2 : o + 1 ≤ i ∧ i < o + 1 + r.length ∧ i < cs.size
      · rw [if_pos h2, if_pos (by omega), show i - o = (i - (o + 1)) + 1 by omega, List.getElem?_cons_succ]
      · rw [if_neg h2, if_neg (by omega)]
theorem ovr_all (cs vs : Array Value) (h : cs.size = vs.size) : ovr cs 0 vs.toList = vs := by
  apply Array.ext_getElem?
  intro i
  rw [ovr_get, Nat.zero_add, Array.length_toList, Nat.sub_zero]
  by_cases hi : i < vs.size
  · rw [if_pos ⟨Nat.zero_le _, hi, by omega⟩]
    simp
  · rw [if_neg (by omega), Array.getElem?_eq_none (by omega), Array.getElem?_eq_none (by omega)]
theorem setCells_top (w : World) (t : TypeId) : ∀ (vs : List Value) (o : Nat) (cs : Array Value), (w.alloc (.cells cs t)).setCells w.heap.size o vs = w.alloc (.cells (ovr cs o vs) t)
  | [], _, _ => rfl
  | v :: r, o, cs => by
    rw [World.setCells, World.setCell_alloc_new, setCells_top w t r (o + 1)]
    rfl
theorem setCells_new (w : World) (t : TypeId) (cs vs : Array Value) (h : cs.size = vs.size) : (w.alloc (.cells cs t)).setCells w.heap.size 0 vs.toList = w.alloc (.cells vs t) := by
  rw [setCells_top, ovr_all cs vs h]
theorem setCells_past (o : Obj) (g : Nat) : ∀ (vs : List Value) (k : Nat) (w : World), g < w.heap.size → (w.alloc o).setCells g k vs = (w.setCells g k vs).alloc o
  | [], _, _, _ => rfl
  | v :: r, k, w, h => by
    rw [World.setCells, World.setCell_alloc_past _ _ _ _ h, setCells_past o g r (k + 1) _ (by simpa [World.setCell] using h)]
    rfl
theorem Row.range {w : World} {b : Nat} {cs : Array Value} {t : TypeId} (h : Row w b t cs) : w.rangeAt b 0 cs.toList := fun j v hv => by
  rw [Nat.zero_add, h.cell j]
  simpa using hv
theorem Row.there {w : World} {b : Nat} {cs : Array Value} {t : TypeId} (h : Row w b t cs) : w.there b 0 cs.size := fun j hj => by
  rw [Nat.zero_add, h.cell j]
  exact ⟨by simp [hj], h.frozen j⟩
section
variable {P : Program}
/-- a type's zero value -/
theorem run_zero {t : TypeId} {z : Value} (h : (P.info? t).bind (·.zero) = some z) (w : World) : (zeroValue t).run P w = .ok z w := by
  obtain ⟨i, hi, hz⟩ := Option.bind_eq_some_iff.1 h
  simp [zeroValue, typeInfo, hi, hz]
/-- stored into the newest block -/
theorem store_top {t u : TypeId} {w : World} {g : Nat} {cs vs : Array Value} (hg : g = w.heap.size) (h : cs.size = vs.size) (hi : (P.info? t).map (·.size) = some vs.size) (h1 : vs.toList.all (·.oneCell') = true) :
    (Instr.storeAt t (.pointer (some ⟨g, 0, none⟩)) (.agg vs)).run P (w.alloc (.cells cs u)) = .ok () (w.alloc (.cells vs u)) := by
  subst hg
  rw [run_storeAt_mid (P := P) (w.alloc (.cells cs u)) w.heap.size 0 t vs (by rw [← h]; exact (Row.new w u cs).there) hi (by rw [← Array.all_toList]; exact h1), setCells_new _ _ _ _ h]
/-- stored into the block below it -/
theorem store_next {t u : TypeId} {w : World} {o : Obj} {g : Nat} {cs vs : Array Value} (hg : g = w.heap.size) (h : cs.size = vs.size) (hi : (P.info? t).map (·.size) = some vs.size) (h1 : vs.toList.all (·.oneCell') = true) :
    (Instr.storeAt t (.pointer (some ⟨g, 0, none⟩)) (.agg vs)).run P ((w.alloc (.cells cs u)).alloc o) = .ok () ((w.alloc (.cells vs u)).alloc o) := by
  subst hg
  rw [run_storeAt_mid (P := P) ((w.alloc (.cells cs u)).alloc o) w.heap.size 0 t vs (by rw [← h]; exact ((Row.new w u cs).alloc o).there) hi (by rw [← Array.all_toList]; exact h1), setCells_past _ _ _ _ _ (by simp), setCells_new _ _ _ _ h]
/-- loaded from a block known whole -/
theorem load_row {t u : TypeId} {w : World} {g : Nat} {cs : Array Value} {d : TypeDesc} (h : Row w g u cs) (hu : P.underlying t = some d) (hd : d.isRow = true) (hi : (P.info? t).map (·.size) = some cs.size) :
    (Instr.loadAt t (.pointer (some ⟨g, 0, none⟩))).run P w = .ok (.agg cs) w :=
  run_loadAt_mid w g 0 t cs.toList d h.range hu hd (by simpa using hi)
theorem loadVar_row {t u : TypeId} {w : World} {g : Nat} {cs : Array Value} {d : TypeDesc} (h : Row w g u cs) (hu : P.underlying t = some d) (hd : d.isRow = true) (hi : (P.info? t).map (·.size) = some cs.size) :
    (loadVar t ⟨g, 0, none⟩).run P w = .ok (.agg cs) w :=
  run_loadVar_mid w g 0 t cs.toList d h.range hu hd (by simpa using hi)
theorem load_top {t u : TypeId} {w : World} {g : Nat} {cs : Array Value} {d : TypeDesc} (hg : g = w.heap.size) (hu : P.underlying t = some d) (hd : d.isRow = true) (hi : (P.info? t).map (·.size) = some cs.size) :
    (Instr.loadAt t (.pointer (some ⟨g, 0, none⟩))).run P (w.alloc (.cells cs u)) = .ok (.agg cs) (w.alloc (.cells cs u)) := by
  subst hg
  exact load_row (Row.new w u cs) hu hd hi
theorem load_next {t u : TypeId} {w : World} {o : Obj} {g : Nat} {cs : Array Value} {d : TypeDesc} (hg : g = w.heap.size) (hu : P.underlying t = some d) (hd : d.isRow = true) (hi : (P.info? t).map (·.size) = some cs.size) :
    (Instr.loadAt t (.pointer (some ⟨g, 0, none⟩))).run P ((w.alloc (.cells cs u)).alloc o) = .ok (.agg cs) ((w.alloc (.cells cs u)).alloc o) := by
  subst hg
  exact load_row ((Row.new w u cs).alloc o) hu hd hi
/-- a literal, built at one step -/
theorem wpList_build {ops : Array Oper} {rest : List Oper} {op : Oper} {a : Act} {w : World} {Q : Exit → Act → World → Prop} (hgd : op.guard = none) (t : TypeId) (parts : Array (Nat × Operand)) (ho : op.op = .build t parts) (cells : Array Value)
    (hc : P.built t (parts.map fun (i, x) => (i, a.eval x)).toList = some cells) (h : wpList P ops Q rest (a.put op.dst (.agg cells)) w) : wpList P ops Q (op :: rest) a w :=
  wpList_plain hgd fun _ hK => wp_build t parts ho (by rw [hc]; rfl) (hK _ _ (by rw [hc]; exact h))
/-- at the list of a plain region's operations: a store into the newest block, into the one below it; a load of a block known whole -/
theorem wpList_store_top {ops : Array Oper} {rest : List Oper} {op : Oper} {a : Act} {Q : Exit → Act → World → Prop} (hgd : op.guard = none) (ty : TypeId) (x y : Operand) (ho : op.op = .store ty x y)
    (w : World) (g : Nat) (u : TypeId) (cs vs : Array Value) (hx : a.eval x = .pointer (some ⟨g, 0, none⟩)) (hy : a.eval y = .agg vs) (hg : g = w.heap.size) (h : cs.size = vs.size) (hi : (P.info? ty).map (·.size) = some vs.size) (h1 : vs.toList.all (·.oneCell') = true)
    (hK : wpList P ops Q rest (a.put op.dst undef) (w.alloc (.cells vs u))) : wpList P ops Q (op :: rest) a (w.alloc (.cells cs u)) := by
  subst hg
  refine wpList_store_mid hgd ty x y ho w.heap.size 0 vs hx hy (by rw [← h]; exact (Row.new w u cs).there) hi (by rw [← Array.all_toList]; exact h1) ?_
  rw [setCells_new _ _ _ _ h]
  exact hK
theorem wpList_store_next {ops : Array Oper} {rest : List Oper} {op : Oper} {a : Act} {Q : Exit → Act → World → Prop} (hgd : op.guard = none) (ty : TypeId) (x y : Operand) (ho : op.op = .store ty x y)
    (w : World) (o : Obj) (g : Nat) (u : TypeId) (cs vs : Array Value) (hx : a.eval x = .pointer (some ⟨g, 0, none⟩)) (hy : a.eval y = .agg vs) (hg : g = w.heap.size) (h : cs.size = vs.size) (hi : (P.info? ty).map (·.size) = some vs.size) (h1 : vs.toList.all (·.oneCell') = true)
    (hK : wpList P ops Q rest (a.put op.dst undef) ((w.alloc (.cells vs u)).alloc o)) : wpList P ops Q (op :: rest) a ((w.alloc (.cells cs u)).alloc o) := by
  subst hg
  refine wpList_store_mid hgd ty x y ho w.heap.size 0 vs hx hy (by rw [← h]; exact ((Row.new w u cs).alloc o).there) hi (by rw [← Array.all_toList]; exact h1) ?_
  rw [setCells_past _ _ _ _ _ (by simp), setCells_new _ _ _ _ h]
  exact hK
theorem wpList_load_top {ops : Array Oper} {rest : List Oper} {op : Oper} {a : Act} {Q : Exit → Act → World → Prop} (hgd : op.guard = none) (ty : TypeId) (x : Operand) (ho : op.op = .load ty x)
    (w : World) (g : Nat) (u : TypeId) (cs : Array Value) (hx : a.eval x = .pointer (some ⟨g, 0, none⟩)) (hg : g = w.heap.size) (d : TypeDesc) (hu : P.underlying ty = some d) (hd : d.isRow = true) (hi : (P.info? ty).map (·.size) = some cs.size)
    (hK : wpList P ops Q rest (a.put op.dst (.agg cs)) (w.alloc (.cells cs u))) : wpList P ops Q (op :: rest) a (w.alloc (.cells cs u)) := by
  subst hg
  exact wpList_load_mid hgd ty x ho w.heap.size 0 hx cs.toList d (Row.new w u cs).range hu hd (by simpa using hi) hK
theorem wpList_load_row {ops : Array Oper} {rest : List Oper} {op : Oper} {a : Act} {w : World} {Q : Exit → Act → World → Prop} (hgd : op.guard = none) (ty : TypeId) (x : Operand) (ho : op.op = .load ty x)
    (g : Nat) (u : TypeId) (cs : Array Value) (hx : a.eval x = .pointer (some ⟨g, 0, none⟩)) (h : Row w g u cs) (d : TypeDesc) (hu : P.underlying ty = some d) (hd : d.isRow = true) (hi : (P.info? ty).map (·.size) = some cs.size)
    (hK : wpList P ops Q rest (a.put op.dst (.agg cs)) w) : wpList P ops Q (op :: rest) a w :=
  wpList_load_mid hgd ty x ho g 0 hx cs.toList d h.range hu hd (by simpa using hi) hK
/-- a result that lies in a block known whole -/
theorem results_row {fn : Func} {t : Tmp} {ty u : TypeId} (h : fn.results = #[.cell t ty]) {tmps : Array Value} {w : World} {g : Nat} {cs : Array Value} (ht : tmps.getD t undef = .pointer (some ⟨g, 0, none⟩)) (hr : Row w g u cs)
    (d : TypeDesc) (hu : P.underlying ty = some d) (hd : d.isRow = true) (hi : (P.info? ty).map (·.size) = some cs.size) : (results fn tmps).run P w = .ok (.agg cs) w := by
  have ht' : tmps[t]?.getD undef = .pointer (some ⟨g, 0, none⟩) := by simpa using ht
  simp [results, h, ht', asAddr, loadVar_row hr hu hd hi]
theorem results_range {fn : Func} {t : Tmp} {ty : TypeId} (h : fn.results = #[.cell t ty]) {tmps : Array Value} {w : World} {g : Nat} {cs : List Value} (ht : tmps.getD t undef = .pointer (some ⟨g, 0, none⟩)) (hr : w.rangeAt g 0 cs)
    (d : TypeDesc) (hu : P.underlying ty = some d) (hd : d.isRow = true) (hi : (P.info? ty).map (·.size) = some cs.length) : (results fn tmps).run P w = .ok (.agg cs.toArray) w := by
  have ht' : tmps[t]?.getD undef = .pointer (some ⟨g, 0, none⟩) := by simpa using ht
  simp [results, h, ht', asAddr, run_loadVar_mid w g 0 ty cs d hr hu hd hi]
end
theorem Below.setCellsAll {n : Nat} {w w' : World} (h : Below n w w') {b : Nat} (hb : n ≤ b) : ∀ (vs : List Value) (o : Nat), Below n w (w'.setCells b o vs) := by
  intro vs
  induction vs generalizing w' with
  | nil => intro o; exact h
  | cons v r ih => intro o; exact ih (Go.RowKit.Below.setCell h hb _) (o + 1)
end Go.Proofs.Ytahnejcfengljaa
