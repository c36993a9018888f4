/- Layer 14 (cells): slices of cells, rows of cells of the call's own. Nothing of the program but the numbers of its types. -/
import Derived.Test.YtahnejcfengljaaCellsMath
import Derived.Test.YtahnejcfengljaaManyOwn
namespace Go.Proofs.Ytahnejcfengljaa
open Go.RowKit
set_option linter.unusedVariables false
set_option linter.unusedSimpArgs false
set_option maxRecDepth 20000

/-- these cells can be read at A, in blocks below B -/
def CellsIn (w : World) (B : Nat) (A : Option Addr) (l : List (Int × Int)) : Prop :=
  ∀ (j : Nat) (c : Int × Int), l[j]? = some c → ∃ p, A = some p ∧ p.block < B ∧ w.cell? (p.add (j * 2)) = some (.int .u16 c.1) ∧ w.cell? ((p.add (j * 2)).add 1) = some (.int .u8 c.2)
theorem CellsIn.nil (w : World) (B : Nat) (A : Option Addr) : CellsIn w B A [] := fun j c h => by simp at h
theorem CellsIn.keep {w w' : World} {B : Nat} {A : Option Addr} {l : List (Int × Int)} (h : CellsIn w B A l) (k : ∀ b, b < B → w'.heap[b]? = w.heap[b]?) : CellsIn w' B A l := fun j c hc => by
  obtain ⟨p, e, hb, h1, h2⟩ := h j c hc
  exact ⟨p, e, hb, (World.cell?_of_block (by rw [add_block]; exact k _ hb)).trans h1, (World.cell?_of_block (by rw [add_block, add_block]; exact k _ hb)).trans h2⟩
theorem CellsIn.more {w : World} {B B' : Nat} {A : Option Addr} {l : List (Int × Int)} (h : CellsIn w B A l) (k : B ≤ B') : CellsIn w B' A l := fun j c hc => by
  obtain ⟨p, e, hb, h1, h2⟩ := h j c hc
  exact ⟨p, e, Nat.lt_of_lt_of_le hb k, h1, h2⟩
theorem CellsIn.below {w w' : World} {B : Nat} {A : Option Addr} {l : List (Int × Int)} (h : CellsIn w B A l) (k : Below B w w') : CellsIn w' B A l := h.keep fun b hb => k.block b hb
theorem CellsIn.at_ {w : World} {B : Nat} {A : Option Addr} {l : List (Int × Int)} (h : CellsIn w B A l) {k : Nat} (hk : k < l.length) : ∃ p, A = some p ∧ p.block < B ∧ w.cell? (p.add (k * 2)) = some (.int .u16 l[k].1) ∧ w.cell? ((p.add (k * 2)).add 1) = some (.int .u8 l[k].2) := h k _ (List.getElem?_eq_getElem hk)
/-- cells as values -/
def cvs : List (Int × Int) → List Value
  | [] => []
  | c :: r => .int .u16 c.1 :: .int .u8 c.2 :: cvs r
theorem cvs_length : ∀ l : List (Int × Int), (cvs l).length = l.length * 2
  | [] => rfl
  | c :: r => by simp only [cvs, List.length_cons, cvs_length r]; omega
theorem cvs_append : ∀ l m : List (Int × Int), cvs l ++ cvs m = cvs (l ++ m)
  | [], _ => rfl
  | c :: r, m => by simp only [cvs, List.cons_append, cvs_append r m]
theorem cvs_even : ∀ (l : List (Int × Int)) (j : Nat), (cvs l)[j * 2]? = l[j]?.map fun c => .int .u16 c.1
  | [], j => by simp [cvs]
  | c :: r, 0 => rfl
  | c :: r, j + 1 => by
    rw [show (j + 1) * 2 = j * 2 + 1 + 1 by omega]
    simp only [cvs, List.getElem?_cons_succ]
    exact cvs_even r j
theorem cvs_odd : ∀ (l : List (Int × Int)) (j : Nat), (cvs l)[j * 2 + 1]? = l[j]?.map fun c => .int .u8 c.2
  | [], j => by simp [cvs]
  | c :: r, 0 => rfl
  | c :: r, j + 1 => by
    rw [show (j + 1) * 2 + 1 = j * 2 + 1 + 1 + 1 by omega]
    simp only [cvs, List.getElem?_cons_succ]
    exact cvs_odd r j
theorem cvs_one : ∀ l : List (Int × Int), ∀ u ∈ cvs l, u.oneCell' = true
  | [], _, h => by cases h
  | c :: r, u, h => by
    simp only [cvs, List.mem_cons] at h
    rcases h with rfl | rfl | h
    · rfl
    · rfl
    · exact cvs_one r u h
/-- read one by one: of all values -/
theorem CellsIn.values {w : World} {B : Nat} {p : Addr} {l : List (Int × Int)} (h : CellsIn w B (some p) l) : ∀ j u, (cvs l)[j]? = some u → w.cell? (p.add j) = some u := fun j u hu => by
  have hd : j = j / 2 * 2 ∨ j = j / 2 * 2 + 1 := by omega
  rcases hd with e | e
  · rw [e, cvs_even] at hu
    obtain ⟨c, hc, rfl⟩ := Option.map_eq_some_iff.1 hu
    obtain ⟨q, eq, -, h1, -⟩ := h _ c hc
    cases eq
    rw [e]; exact h1
  · rw [e, cvs_odd] at hu
    obtain ⟨c, hc, rfl⟩ := Option.map_eq_some_iff.1 hu
    obtain ⟨q, eq, -, -, h2⟩ := h _ c hc
    cases eq
    rw [e, ← add_twice]; exact h2
theorem CellsIn.of_values {w : World} {B : Nat} {p : Addr} {l : List (Int × Int)} (hb : p.block < B) (h : ∀ j u, (cvs l)[j]? = some u → w.cell? (p.add j) = some u) : CellsIn w B (some p) l := fun j c hc =>
  ⟨p, rfl, hb, h _ _ (by rw [cvs_even, hc]; rfl), by rw [add_twice]; exact h _ _ (by rw [cvs_odd, hc]; rfl)⟩
theorem cell_info : (Try.prog.info? 38).map (fun i => (i.zero, i.size, i.bytes)) = some (some (.agg #[.int .u16 0, .int .u8 0]), 2, 4) := by kernel_rfl
/-- a row of the call's own as a slice -/
theorem own_cslice {W : World} {b n : Nat} {v : Value} {l : List (Int × Int)} (h : W.ownsRow b 38 2 v n (cvs l)) : ∃ A c, v = .slice A n c ∧ n ≤ c ∧ CellsIn W W.heap.size A l ∧ (A = none → c = 0) := by
  rcases h.2 with ⟨e1, e2⟩ | ⟨g, c, cur, e1, -, hh, hle, -⟩
  · subst e1 e2
    have h1 := h.1
    rw [cvs_length] at h1
    obtain rfl : l = [] := List.eq_nil_of_length_eq_zero (by omega)
    exact ⟨none, 0, rfl, Nat.le_refl _, CellsIn.nil _ _ _, fun _ => rfl⟩
  · subst e1
    exact ⟨_, c, rfl, hle, CellsIn.of_values (Array.getElem?_eq_some_iff.1 hh).1 (h.cells (g := g) rfl), fun e => by cases e⟩
theorem own_clen {W : World} {b n : Nat} {v : Value} {l : List (Int × Int)} (h : W.ownsRow b 38 2 v n (cvs l)) : n = l.length := by
  have := h.1
  rw [cvs_length] at this
  omega
theorem wpList_append_cells {ops : Array Oper} {rest : List Oper} {o : Oper} {a : Act} {w : World} {Q : Exit → Act → World → Prop} (hgd : o.guard = none) (s x : Operand)
    (ho : o.op = .call { callee := .builtin .append, args := #[s, x], argTypes := #[22, 22] })
    (base B : Nat) (hbase : base ≤ w.heap.size)
    (v : Value) (n : Nat) (l : List (Int × Int)) (hs : a.eval s = v) (hown : w.ownsRow base 38 2 v n (cvs l))
    (A : Option Addr) (c : Nat) (ys : List (Int × Int)) (hx : a.eval x = .slice A ys.length c) (hy : CellsIn w B A ys) (hn : A = none → c = 0) (hmax : n + ys.length ≤ 35184372088832)
    (h : ∀ v' w', w'.ownsRow base 38 2 v' (n + ys.length) (cvs (l ++ ys)) → w.grownBy w' v.ownBlock → wpList Try.prog ops Q rest (a.put o.dst v') w') :
    wpList Try.prog ops Q (o :: rest) a w := by
  obtain ⟨i0, hi0, hz0, hz1, hz2⟩ := info_parts cell_info
  rcases A with _ | p
  · obtain rfl := hn rfl
    have hy0 : ys = [] := by
      cases ys with
      | nil => rfl
      | cons y ys' =>
        obtain ⟨ad, e, -⟩ := hy 0 y rfl
        cases e
    subst hy0
    refine wpList_append_own_none hgd s x _ ho base 38 i0 2 Try.underlying22 hi0 v n (cvs l) hs hown hx ?_
    exact h v w (by simpa using hown) ⟨rfl, rfl, rfl, Nat.le_refl _, fun _ _ _ => rfl⟩
  · refine wpList_append_own_at _ hgd s x _ ho base 38 i0 _ 2 4 Try.underlying22 hi0 hz0 hz1 hz2 rfl (by omega) v n (cvs l) hs hown p ys.length c (cvs ys) hx (cvs_length ys) hy.values (cvs_one ys) (by simp only [maxLen]; omega) (by omega) hbase ?_
    intro v' w' own' hg _ _
    rw [cvs_append] at own'
    exact h v' w' own' hg
section
variable {ops : Array Oper} {Q : Exit → Act → World → Prop} {base : List Value} {rest : List Oper} {l : Slots} {w : World} {o : Oper}
/-- append of cells to a row of the call's own -/
theorem qAc (s x : Operand) (bs B : Nat) (v : Value) (n : Nat) (got : List (Int × Int)) (A : Option Addr) (c : Nat) (ys : List (Int × Int)) (hbs : bs ≤ w.heap.size)
    (hown : w.ownsRow bs 38 2 v n (cvs got)) (hy : CellsIn w B A ys) (hn : A = none → c = 0) (hmax : n + ys.length ≤ 35184372088832)
    (h : ∀ v' w', w'.ownsRow bs 38 2 v' (n + ys.length) (cvs (got ++ ys)) → w.grownBy w' v.ownBlock → WO Try.prog ops Q base rest (putO o.dst v' l) w')
    (ho : o.op = .call { callee := .builtin .append, args := #[s, x], argTypes := #[22, 22] } := by exact rfl) (hg : o.guard = none := by exact rfl) (hs : evO base l s = v := by kernel_rfl) (hx : evO base l x = .slice A ys.length c := by kernel_rfl) (hd : dstO o.dst base.length = true := by kernel_rfl) : WO Try.prog ops Q base (o :: rest) l w :=
  ⟨fun hi => ⟨wpList_append_cells hg s x ho bs B hbs v n got (by rw [evO_eq hi]; exact hs) hown A c ys (by rw [evO_eq hi]; exact hx) hy hn hmax fun v' w' h1 h2 => by rw [put_actO]; exact ((h v' w' h1 h2).h (inO_put hd hi)).h⟩⟩
/-- a cell of a slice -/
theorem cixC (p : Addr) (n c k : Nat) (h : k < n) (w : World) : (Instr.indexAt 22 (.slice (some p) n c) (.int .i64 (k : Int))).run Try.prog w = .ok (.pointer (some (p.add (k * 2)))) w := by
  have h1 : (k : Int) < n := by omega
  simp [go_sem, h]
theorem fldC0 (p : Addr) (w : World) : (Instr.fieldAt 38 (.pointer (some p)) 0).run Try.prog w = .ok (.pointer (some (p.add 0))) w := by simp [go_sem]
theorem fldC1 (p : Addr) (w : World) : (Instr.fieldAt 38 (.pointer (some p)) 1).run Try.prog w = .ok (.pointer (some (p.add 1))) w := by simp [go_sem]
theorem add_zero' (p : Addr) : p.add 0 = p := by cases p; simp [Addr.add]
theorem ldCell {w : World} {p : Addr} {a b : Int} (h1 : w.cell? p = some (.int .u16 a)) (h2 : w.cell? (p.add 1) = some (.int .u8 b)) : (Instr.loadAt 38 (.pointer (some p))).run Try.prog w = .ok (.agg #[.int .u16 a, .int .u8 b]) w := by
  have h3 : w.cell? { block := p.block, off := p.off + 1 } = some (.int .u8 b) := by simpa [Addr.add] using h2
  simp [go_sem, h1, h3]
theorem ldA {w : World} {p : Addr} {V : Value} (h : w.cell? p = some V) : (Instr.loadAt 23 (.pointer (some p))).run Try.prog w = .ok V w := by simp [go_sem, h]
theorem ldD {w : World} {p : Addr} {V : Value} (h : w.cell? p = some V) : (Instr.loadAt 5 (.pointer (some p))).run Try.prog w = .ok V w := by simp [go_sem, h]
theorem ixB (p : Addr) (n c k : Nat) (h : k < n) (w : World) : (Instr.indexAt 32 (.slice (some p) n c) (.int .i64 (k : Int))).run Try.prog w = .ok (.pointer (some (p.add k))) w := by
  simp [go_sem, h]
end
theorem CellsIn.ld0 {w : World} {B : Nat} {p : Addr} {l : List (Int × Int)} (h : CellsIn w B (some p) l) {k : Nat} (hk : k < l.length) : (Instr.loadAt 23 (.pointer (some ((p.add (k * 2)).add 0)))).run Try.prog w = .ok (.int .u16 l[k].1) w := by
  obtain ⟨q, e, -, h1, -⟩ := h.at_ hk
  cases e
  rw [add_zero']
  exact ldA h1
theorem CellsIn.ld1 {w : World} {B : Nat} {p : Addr} {l : List (Int × Int)} (h : CellsIn w B (some p) l) {k : Nat} (hk : k < l.length) : (Instr.loadAt 5 (.pointer (some ((p.add (k * 2)).add 1)))).run Try.prog w = .ok (.int .u8 l[k].2) w := by
  obtain ⟨q, e, -, -, h2⟩ := h.at_ hk
  cases e
  exact ldD h2
theorem CellsIn.ldW {w : World} {B : Nat} {p : Addr} {l : List (Int × Int)} (h : CellsIn w B (some p) l) {k : Nat} (hk : k < l.length) : (Instr.loadAt 38 (.pointer (some (p.add (k * 2))))).run Try.prog w = .ok (.agg #[.int .u16 l[k].1, .int .u8 l[k].2]) w := by
  obtain ⟨q, e, -, h1, h2⟩ := h.at_ hk
  cases e
  exact ldCell h1 h2
section
variable {P : Program} {ρ : Operand → Value} {o : Oper} {x y : Operand} {V W R : Value}
theorem xIndex {t : TypeId} {w : World} (hl : (Instr.indexAt t V W).run P w = .ok R w) (ho : o.op = .indexAddr t x y := by exact rfl) (hx : ρ x = V := by kernel_rfl) (hy : ρ y = W := by kernel_rfl) : (execOp ρ o).run P w = .ok (.value R) w := by
  unfold execOp
  simp only [ho, hx, hy, Sem.run_bind, Sem.run_pure, hl, Result.andThen_ok]
theorem xBin {op : BinOp} {t r : TypeId} {w : World} (hg : (eqGuard op t x y V W).run P w = .ok () w) (hb : (binOp op t V W).run P w = .ok R w) (ho : o.op = .binOp op t x y r := by exact rfl) (hx : ρ x = V := by kernel_rfl) (hy : ρ y = W := by kernel_rfl) : (execOp ρ o).run P w = .ok (.value R) w := by
  unfold execOp
  simp only [ho, hx, hy, Sem.run_bind, Sem.run_pure, hg, hb, Result.andThen_ok]
theorem xField {t : TypeId} {f : Nat} {w : World} (hf : (Instr.fieldAt t V f).run P w = .ok R w) (ho : o.op = .fieldAddr t x f := by exact rfl) (hx : ρ x = V := by kernel_rfl) : (execOp ρ o).run P w = .ok (.value R) w := by
  unfold execOp
  simp only [ho, hx, Sem.run_bind, Sem.run_pure, hf, Result.andThen_ok]
theorem xLoad {t : TypeId} {w : World} (hl : (Instr.loadAt t V).run P w = .ok R w) (ho : o.op = .load t x := by exact rfl) (hx : ρ x = V := by kernel_rfl) : (execOp ρ o).run P w = .ok (.value R) w := by
  unfold execOp
  simp only [ho, hx, Sem.run_bind, Sem.run_pure, hl, Result.andThen_ok]
end
section
variable {ρ : Operand → Value} {o : Oper} {x y : Operand}
theorem add_i64 (k : Nat) (h : k < 4611686018427387904) (w : World) : (binOp .add 3 (.int .i64 (k : Int)) (.int .i64 1)).run Try.prog w = .ok (.int .i64 ((k + 1 : Nat) : Int)) w := by
  have e : IntKind.i64.wrap ((k : Int) + 1) = ((k + 1 : Nat) : Int) := by simp [IntKind.wrap, IntKind.bits, IntKind.signed]; omega
  simp [go_sem, e]
/-- a loop's count, one more -/
theorem xInc (k : Nat) (h : k < 4611686018427387904) {r : TypeId} {w : World} (ho : o.op = .binOp .add 3 x y r := by exact rfl) (hx : ρ x = .int .i64 (k : Int) := by kernel_rfl) (hy : ρ y = .int .i64 1 := by kernel_rfl) : (execOp ρ o).run Try.prog w = .ok (.value (.int .i64 ((k + 1 : Nat) : Int))) w :=
  xBin (by simp [go_sem]) (add_i64 k h w) ho hx hy
end
end Go.Proofs.Ytahnejcfengljaa
