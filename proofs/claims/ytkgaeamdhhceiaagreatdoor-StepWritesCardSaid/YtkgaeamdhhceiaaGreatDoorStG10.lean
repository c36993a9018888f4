/- Contracts and facts that the claim's proof wants (several texts in one). -/
import Derived.Maps.RangeWalk
import Derived.Laws.StructEq
import Derived.Test.YtkgaeamdhhceiaaGreatDoorStG1
import Derived.Test.YtkgaeamdhhceiaaGreatDoorStG8
import Derived.Test.YtkgaeamdhhceiaaGreatDoorStG9
namespace Go.Proofs.YtkgaeamdhhceiaaGreatDoor
open Go.RowKit
set_option linter.unusedVariables false
set_option linter.unusedSimpArgs false
set_option maxRecDepth 20000
set_option maxHeartbeats 20000000
def CellsIn (w : World) (B : Nat) (A : Option Addr) (l : List (Int × Int)) : Prop :=
  ∀ (j : Nat) (c : Int × Int), l[j]? = some c → ∃ p, A = some p ∧ p.block < B ∧ w.cell? (p.add (j * 2)) = some (.int .u16 c.1) ∧ w.cell? ((p.add (j * 2)).add 1) = some (.int .u8 c.2)
theorem CellsIn.nil (w : World) (B : Nat) (A : Option Addr) : CellsIn w B A [] := fun j c h => by simp at h
theorem CellsIn.keep {w w' : World} {B : Nat} {A : Option Addr} {l : List (Int × Int)} (h : CellsIn w B A l) (k : ∀ b, b < B → w'.heap[b]? = w.heap[b]?) : CellsIn w' B A l := fun j c hc => by
  obtain ⟨p, e, hb, h1, h2⟩ := h j c hc
  exact ⟨p, e, hb, (World.cell?_of_block (by rw [add_block]; exact k _ hb)).trans h1, (World.cell?_of_block (by rw [add_block, add_block]; exact k _ hb)).trans h2⟩
theorem CellsIn.more {w : World} {B B' : Nat} {A : Option Addr} {l : List (Int × Int)} (h : CellsIn w B A l) (k : B ≤ B') : CellsIn w B' A l := fun j c hc => by
  obtain ⟨p, e, hb, h1, h2⟩ := h j c hc
  exact ⟨p, e, Nat.lt_of_lt_of_le hb k, h1, h2⟩
theorem CellsIn.below {w w' : World} {B : Nat} {A : Option Addr} {l : List (Int × Int)} (h : CellsIn w B A l) (k : Below B w w') : CellsIn w' B A l := h.keep fun b hb => k.block b hb
theorem CellsIn.at_ {w : World} {B : Nat} {A : Option Addr} {l : List (Int × Int)} (h : CellsIn w B A l) {k : Nat} (hk : k < l.length) : ∃ p, A = some p ∧ p.block < B ∧ w.cell? (p.add (k * 2)) = some (.int .u16 l[k].1) ∧ w.cell? ((p.add (k * 2)).add 1) = some (.int .u8 l[k].2) := h k _ (List.getElem?_eq_getElem hk)
def cvs : List (Int × Int) → List Value
  | [] => []
  | c :: r => .int .u16 c.1 :: .int .u8 c.2 :: cvs r
theorem cvs_length : ∀ l : List (Int × Int), (cvs l).length = l.length * 2
  | [] => rfl
  | c :: r => by simp only [cvs, List.length_cons, cvs_length r]; omega
theorem cvs_append : ∀ l m : List (Int × Int), cvs l ++ cvs m = cvs (l ++ m)
  | [], _ => rfl
  | c :: r, m => by simp only [cvs, List.cons_append, cvs_append r m]
theorem cvs_even : ∀ (l : List (Int × Int)) (j : Nat), (cvs l)[j * 2]? = l[j]?.map fun c => .int .u16 c.1
  | [], j => by simp [cvs]
  | c :: r, 0 => rfl
  | c :: r, j + 1 => by
    rw [show (j + 1) * 2 = j * 2 + 1 + 1 by omega]
    simp only [cvs, List.getElem?_cons_succ]
    exact cvs_even r j
theorem cvs_odd : ∀ (l : List (Int × Int)) (j : Nat), (cvs l)[j * 2 + 1]? = l[j]?.map fun c => .int .u8 c.2
  | [], j => by simp [cvs]
  | c :: r, 0 => rfl
  | c :: r, j + 1 => by
    rw [show (j + 1) * 2 + 1 = j * 2 + 1 + 1 + 1 by omega]
    simp only [cvs, List.getElem?_cons_succ]
    exact cvs_odd r j
theorem cvs_one : ∀ l : List (Int × Int), ∀ u ∈ cvs l, u.oneCell' = true
  | [], _, h => by cases h
  | c :: r, u, h => by
    simp only [cvs, List.mem_cons] at h
    rcases h with rfl | rfl | h
    · rfl
    · rfl
    · exact cvs_one r u h
theorem CellsIn.values {w : World} {B : Nat} {p : Addr} {l : List (Int × Int)} (h : CellsIn w B (some p) l) : ∀ j u, (cvs l)[j]? = some u → w.cell? (p.add j) = some u := fun j u hu => by
  have hd : j = j / 2 * 2 ∨ j = j / 2 * 2 + 1 := by omega
  rcases hd with e | e
  · rw [e, cvs_even] at hu
    obtain ⟨c, hc, rfl⟩ := Option.map_eq_some_iff.1 hu
    obtain ⟨q, eq, -, h1, -⟩ := h _ c hc
    cases eq
    rw [e]; exact h1
  · rw [e, cvs_odd] at hu
    obtain ⟨c, hc, rfl⟩ := Option.map_eq_some_iff.1 hu
    obtain ⟨q, eq, -, -, h2⟩ := h _ c hc
    cases eq
    rw [e, ← add_twice]; exact h2
theorem CellsIn.of_values {w : World} {B : Nat} {p : Addr} {l : List (Int × Int)} (hb : p.block < B) (h : ∀ j u, (cvs l)[j]? = some u → w.cell? (p.add j) = some u) : CellsIn w B (some p) l := fun j c hc =>
  ⟨p, rfl, hb, h _ _ (by rw [cvs_even, hc]; rfl), by rw [add_twice]; exact h _ _ (by rw [cvs_odd, hc]; rfl)⟩
theorem cell_info : (Tryz.prog.info? 67).map (fun i => (i.zero, i.size, i.bytes)) = some (some (.agg #[.int .u16 0, .int .u8 0]), 2, 4) := by kernel_rfl
theorem own_cslice {W : World} {b n : Nat} {v : Value} {l : List (Int × Int)} (h : W.ownsRow b 67 2 v n (cvs l)) : ∃ A c, v = .slice A n c ∧ n ≤ c ∧ CellsIn W W.heap.size A l ∧ (A = none → c = 0) := by
  rcases h.2 with ⟨e1, e2⟩ | ⟨g, c, cur, e1, -, hh, hle, -⟩
  · subst e1 e2
    have h1 := h.1
    rw [cvs_length] at h1
    obtain rfl : l = [] := List.eq_nil_of_length_eq_zero (by omega)
    exact ⟨none, 0, rfl, Nat.le_refl _, CellsIn.nil _ _ _, fun _ => rfl⟩
  · subst e1
    exact ⟨_, c, rfl, hle, CellsIn.of_values (Array.getElem?_eq_some_iff.1 hh).1 (h.cells (g := g) rfl), fun e => by cases e⟩
theorem ownsRow_more {w : World} {b c : Nat} {e : TypeId} {s : Nat} {v : Value} {n : Nat} {xs : List Value} (h : w.ownsRow c e s v n xs) (hbc : b ≤ c) : w.ownsRow b e s v n xs := by
  obtain ⟨h1, h2⟩ := h
  refine ⟨h1, ?_⟩
  rcases h2 with h2 | ⟨g, cap, cur, e, hb, rest⟩
  · exact .inl h2
  · exact .inr ⟨g, cap, cur, e, Nat.le_trans hbc hb, rest⟩
theorem wpList_append_cells {ops : Array Oper} {rest : List Oper} {o : Oper} {a : Act} {w : World} {Q : Exit → Act → World → Prop} (hgd : o.guard = none) (s x : Operand)
    (ho : o.op = .call { callee := .builtin .append, args := #[s, x], argTypes := #[25, 25] })
    (base B : Nat) (hbase : base ≤ w.heap.size)
    (v : Value) (n : Nat) (l : List (Int × Int)) (hs : a.eval s = v) (hown : w.ownsRow base 67 2 v n (cvs l))
    (A : Option Addr) (c : Nat) (ys : List (Int × Int)) (hx : a.eval x = .slice A ys.length c) (hy : CellsIn w B A ys) (hn : A = none → c = 0) (hmax : n + ys.length ≤ 35184372088832)
    (h : ∀ v' w', w'.ownsRow base 67 2 v' (n + ys.length) (cvs (l ++ ys)) → w.grownBy w' v.ownBlock → wpList Tryz.prog ops Q rest (a.put o.dst v') w') :
    wpList Tryz.prog ops Q (o :: rest) a w := by
  obtain ⟨i0, hi0, hz0, hz1, hz2⟩ := info_parts cell_info
  rcases A with _ | p
  · obtain rfl := hn rfl
    have hy0 : ys = [] := by
      cases ys with
      | nil => rfl
      | cons y ys' =>
        obtain ⟨ad, e, -⟩ := hy 0 y rfl
        cases e
    subst hy0
    refine wpList_append_own_none hgd s x _ ho base 67 i0 2 Tryz.underlying25 hi0 v n (cvs l) hs hown hx ?_
    exact h v w (by simpa using hown) ⟨rfl, rfl, rfl, Nat.le_refl _, fun _ _ _ => rfl⟩
  · refine wpList_append_own_at _ hgd s x _ ho base 67 i0 _ 2 4 Tryz.underlying25 hi0 hz0 hz1 hz2 rfl (by omega) v n (cvs l) hs hown p ys.length c (cvs ys) hx (cvs_length ys) hy.values (cvs_one ys) (by simp only [maxLen]; omega) (by omega) hbase ?_
    intro v' w' own' hg _ _
    rw [cvs_append] at own'
    exact h v' w' own' hg
section
variable {ops : Array Oper} {Q : Exit → Act → World → Prop} {base : List Value} {rest : List Oper} {l : Slots} {w : World} {o : Oper}
theorem qAc (s x : Operand) (bs B : Nat) (v : Value) (n : Nat) (got : List (Int × Int)) (A : Option Addr) (c : Nat) (ys : List (Int × Int)) (hbs : bs ≤ w.heap.size)
    (hown : w.ownsRow bs 67 2 v n (cvs got)) (hy : CellsIn w B A ys) (hn : A = none → c = 0) (hmax : n + ys.length ≤ 35184372088832)
    (h : ∀ v' w', w'.ownsRow bs 67 2 v' (n + ys.length) (cvs (got ++ ys)) → w.grownBy w' v.ownBlock → WO Tryz.prog ops Q base rest (putO o.dst v' l) w')
    (ho : o.op = .call { callee := .builtin .append, args := #[s, x], argTypes := #[25, 25] } := by exact rfl) (hg : o.guard = none := by exact rfl) (hs : evO base l s = v := by kernel_rfl) (hx : evO base l x = .slice A ys.length c := by kernel_rfl) (hd : dstO o.dst base.length = true := by kernel_rfl) : WO Tryz.prog ops Q base (o :: rest) l w :=
  ⟨fun hi => ⟨wpList_append_cells hg s x ho bs B hbs v n got (by rw [evO_eq hi]; exact hs) hown A c ys (by rw [evO_eq hi]; exact hx) hy hn hmax fun v' w' h1 h2 => by rw [put_actO]; exact ((h v' w' h1 h2).h (inO_put hd hi)).h⟩⟩
theorem cixC (p : Addr) (n c k : Nat) (h : k < n) (w : World) : (Instr.indexAt 25 (.slice (some p) n c) (.int .i64 (k : Int))).run Tryz.prog w = .ok (.pointer (some (p.add (k * 2)))) w := by
  have h1 : (k : Int) < n := by omega
  simp [go_sem, h]
theorem fldC0 (p : Addr) (w : World) : (Instr.fieldAt 67 (.pointer (some p)) 0).run Tryz.prog w = .ok (.pointer (some (p.add 0))) w := by simp [go_sem]
theorem fldC1 (p : Addr) (w : World) : (Instr.fieldAt 67 (.pointer (some p)) 1).run Tryz.prog w = .ok (.pointer (some (p.add 1))) w := by simp [go_sem]
theorem ldCell {w : World} {p : Addr} {a b : Int} (h1 : w.cell? p = some (.int .u16 a)) (h2 : w.cell? (p.add 1) = some (.int .u8 b)) : (Instr.loadAt 67 (.pointer (some p))).run Tryz.prog w = .ok (.agg #[.int .u16 a, .int .u8 b]) w := by
  have h3 : w.cell? { block := p.block, off := p.off + 1 } = some (.int .u8 b) := by simpa [Addr.add] using h2
  simp [go_sem, h1, h3]
end
theorem CellsIn.ld0 {w : World} {B : Nat} {p : Addr} {l : List (Int × Int)} (h : CellsIn w B (some p) l) {k : Nat} (hk : k < l.length) : (Instr.loadAt 22 (.pointer (some ((p.add (k * 2)).add 0)))).run Tryz.prog w = .ok (.int .u16 l[k].1) w := by
  obtain ⟨q, e, -, h1, -⟩ := h.at_ hk
  cases e
  rw [add_zero']
  exact ldA h1
theorem CellsIn.ld1 {w : World} {B : Nat} {p : Addr} {l : List (Int × Int)} (h : CellsIn w B (some p) l) {k : Nat} (hk : k < l.length) : (Instr.loadAt 5 (.pointer (some ((p.add (k * 2)).add 1)))).run Tryz.prog w = .ok (.int .u8 l[k].2) w := by
  obtain ⟨q, e, -, -, h2⟩ := h.at_ hk
  cases e
  exact ldD h2
theorem CellsIn.ldW {w : World} {B : Nat} {p : Addr} {l : List (Int × Int)} (h : CellsIn w B (some p) l) {k : Nat} (hk : k < l.length) : (Instr.loadAt 67 (.pointer (some (p.add (k * 2))))).run Tryz.prog w = .ok (.agg #[.int .u16 l[k].1, .int .u8 l[k].2]) w := by
  obtain ⟨q, e, -, h1, h2⟩ := h.at_ hk
  cases e
  exact ldCell h1 h2
def MapAt (w : World) (b n : Nat) (m : List (Int × Int)) : Prop := w.ownsMap Tryz.prog 22 (plainElem (H := Unit) Tryz.prog 5) b n (dm m)
theorem keyed16 : Maps.Keyed Tryz.prog 22 := Maps.int_keyed Tryz.underlying22
theorem wf16 {a : Int} (h : 0 ≤ a ∧ a ≤ 65535) : (Lit.int .u16 a).wf = true := by simp [Lit.wf, IntKind.min, IntKind.max, IntKind.bits, IntKind.signed]; omega
theorem wf8 {a : Int} (h : 0 ≤ a ∧ a ≤ 255) : (Lit.int .u8 a).wf = true := by simp [Lit.wf, IntKind.min, IntKind.max, IntKind.bits, IntKind.signed]; omega
theorem of_wf16 {a : Int} (h : (Lit.int .u16 a).wf = true) : 0 ≤ a ∧ a ≤ 65535 := by simp [Lit.wf, IntKind.min, IntKind.max, IntKind.bits, IntKind.signed] at h; omega
theorem of_wf8 {a : Int} (h : (Lit.int .u8 a).wf = true) : 0 ≤ a ∧ a ≤ 255 := by simp [Lit.wf, IntKind.min, IntKind.max, IntKind.bits, IntKind.signed] at h; omega
theorem key16 {a : Int} (h : 0 ≤ a ∧ a ≤ 65535) : keyOf Tryz.prog 22 (.int .u16 a) = some (.int .u16 a) := Maps.keyOf_int_mk Tryz.underlying22 (wf16 h)
theorem mapT : Tryz.prog.underlying 84 = some (.map 22 5) := Tryz.underlying84
theorem MapAt.made (w : World) : MapAt (w.alloc (.map #[] 0)) w.heap.size 0 [] := World.ownsMap_made w _ _ _
theorem MapAt.lt {w : World} {b n : Nat} {m : List (Int × Int)} (h : MapAt w b n m) : b < w.heap.size := World.ownsMap.lt h
theorem MapAt.grown {w w' : World} {b n : Nat} {m : List (Int × Int)} {row : Option Nat} (h : MapAt w b n m) (k : w.grownBy w' row) (hb : some b ≠ row) : MapAt w' b n m := World.ownsMap.kept h k hb
theorem MapAt.below {w w' : World} {b n : Nat} {m : List (Int × Int)} (h : MapAt w b n m) (k : Below w.heap.size w w') : MapAt w' b n m :=
  h.grown (row := none) ⟨k.os, k.tape, k.output, k.size, fun i hi _ => k.block i hi⟩ (by simp)
theorem MapAt.size {w : World} {b n : Nat} {m : List (Int × Int)} (h : MapAt w b n m) : m.length ≤ n := by
  have := World.ownsMap.size_le h
  rwa [dm_size] at this
theorem MapAt.store {w : World} {b n : Nat} {m : List (Int × Int)} (h : MapAt w b n m) (hn : n < maxLen) {a v : Int} (ha : 0 ≤ a ∧ a ≤ 65535) (hv : 0 ≤ v ∧ v ≤ 255) :
    ∃ w', (Instr.mapUpdate 84 (.map (some b)) (.int .u16 a) (.int .u8 v)).run Tryz.prog w = .ok () w' ∧ MapAt w' b (n + 1) (putS a v m) ∧ w.grownBy w' (some b) := by
  obtain ⟨w', h1, h2, h3⟩ := World.ownsMap.update h keyed16 mapT hn (key16 ha) (plainElem_int Tryz.underlying5 (wf8 hv))
  rw [dm_put] at h2
  exact ⟨w', h1, h2, h3⟩
theorem MapAt.drop {w : World} {b n : Nat} {m : List (Int × Int)} (h : MapAt w b n m) {a : Int} (ha : 0 ≤ a ∧ a ≤ 65535) (ty : TypeId) :
    ∃ w', (Builtin.delete_ #[84, 22] ty #[.map (some b), .int .u16 a]).run Tryz.prog w = .ok (.tuple #[]) w' ∧ MapAt w' b n (delS a m) ∧ w.grownBy w' (some b) := by
  obtain ⟨w', h1, h2, h3⟩ := World.ownsMap.drop h keyed16 mapT (key16 ha) ty
  rw [dm_del] at h2
  exact ⟨w', h1, h2, h3.grown⟩
def RangeAt (w : World) (b r n : Nat) (m : List (Int × Int)) (left : Int → Bool) (cnt : Nat) : Prop := ∃ lf, (∀ x, lf (.int .u16 x) = left x) ∧ w.ranges Tryz.prog 22 (plainElem (H := Unit) Tryz.prog 5) b r n (dm m) lf cnt
theorem RangeAt.lt {w : World} {b r n : Nat} {m : List (Int × Int)} {left : Int → Bool} {cnt : Nat} (h : RangeAt w b r n m left cnt) : r < w.heap.size := by obtain ⟨lf, -, h⟩ := h; exact h.lt
theorem RangeAt.map {w : World} {b r n : Nat} {m : List (Int × Int)} {left : Int → Bool} {cnt : Nat} (h : RangeAt w b r n m left cnt) : MapAt w b n m := by obtain ⟨lf, -, h⟩ := h; exact h.owns
theorem RangeAt.grown {w w' : World} {b r n : Nat} {m : List (Int × Int)} {left : Int → Bool} {cnt : Nat} {row : Option Nat} (h : RangeAt w b r n m left cnt) (k : w.grownBy w' row) (hb : some b ≠ row) (hr : some r ≠ row) : RangeAt w' b r n m left cnt := by
  obtain ⟨lf, h1, h2⟩ := h
  exact ⟨lf, h1, h2.kept k hb hr⟩
theorem RangeAt.below {w w' : World} {b r n : Nat} {m : List (Int × Int)} {left : Int → Bool} {cnt : Nat} (h : RangeAt w b r n m left cnt) (k : Below w.heap.size w w') : RangeAt w' b r n m left cnt :=
  h.grown (row := none) ⟨k.os, k.tape, k.output, k.size, fun i hi _ => k.block i hi⟩ (by simp) (by simp)
theorem MapAt.range {w : World} {b n : Nat} {m : List (Int × Int)} (h : MapAt w b n m) :
    ∃ w', (Instr.range 84 (.map (some b))).run Tryz.prog w = .ok (.pointer (some ⟨w.heap.size, 0, none⟩)) w' ∧ RangeAt w' b w.heap.size n m (fun x => m.any fun p => decide (p.1 = x)) m.length ∧ Below w.heap.size w w' := by
  obtain ⟨w', h1, h2, h3, h4⟩ := World.ownsMap.range h keyed16 mapT
  rw [dm_size] at h2
  exact ⟨w', h1, ⟨_, fun x => dm_has m x, h2⟩, ⟨h3.os, h3.tape, h3.output, h3.size, fun i hi => h3.block i hi (by simp)⟩⟩
theorem RangeAt.next {w : World} {b r n : Nat} {m : List (Int × Int)} {left : Int → Bool} {cnt : Nat} (h : RangeAt w b r n m left cnt) (ty : TypeId) :
    ((∀ x, left x = false) ∧ (Instr.next (.pointer (some ⟨r, 0, none⟩)) false ty).run Tryz.prog w = .ok (.tuple #[.bool false]) w) ∨
    ∃ x c w' cnt', (0 ≤ x ∧ x ≤ 65535) ∧ (0 ≤ c ∧ c ≤ 255) ∧ left x = true ∧ (x, c) ∈ m ∧ (Instr.next (.pointer (some ⟨r, 0, none⟩)) false ty).run Tryz.prog w = .ok (.tuple #[.bool true, .int .u16 x, .int .u8 c]) w' ∧
      RangeAt w' b r n m (fun z => left z && !decide (z = x)) cnt' ∧ cnt' < cnt ∧ w.grownBy w' (some r) ∧ (Instr.entry (.pointer (some ⟨r, 0, none⟩))).run Tryz.prog w' = .ok (.tuple #[.int .u16 x, .int .u8 c]) w' := by
  obtain ⟨lf, hlf, h⟩ := h
  rcases h.next keyed16 ty with ⟨-, h2, h3⟩ | ⟨key, v, kl, y, w', cnt', hkey, hlk, hv, hat, hrun, hrg, hlt, hgr, hsz, hen⟩
  · exact .inl ⟨fun x => by rw [← hlf]; exact h2 _, h3⟩
  · obtain ⟨x, rfl, rfl, hwx⟩ := Maps.keyOf_int_inv Tryz.underlying22 hkey
    obtain ⟨c, rfl, rfl, hwc⟩ := plainElem_int_inv Tryz.underlying5 hv
    exact .inr ⟨x, c, w', cnt', of_wf16 hwx, of_wf8 hwc, by rw [← hlf]; exact hlk, dm_mem hat, hrun, ⟨_, fun z => by show (lf _ && !(Lit.int .u16 z).sameKey (.int .u16 x)) = (left z && !decide (z = x)); rw [hlf, same16], hrg⟩, hlt, hgr, hen⟩
theorem cstore_any (w : World) (b n : Nat) (m : List (Int × Int)) (a v : Int) (ha : 0 ≤ a ∧ a ≤ 65535) (hv : 0 ≤ v ∧ v ≤ 255) (hM : MapAt w b n m) (hn : n < maxLen) :
    Calls Tryz.prog 63 #[.map (some b), .int .u16 a, .int .u8 v] w fun e w' => e = .returned (.tuple #[]) ∧ (MapAt w' b (n + 1) (stepS m (a, v)) ∧ w.grownBy w' (some b)) := by
  go_enter Tryz.func63, Tryz.ntmps63
  refine coStart <| coS <| qQ [] (Many.begin w) fun w1 k1 => coI (v == 0) (fun h => coR <| qR 2 [] k1 fun w2 k2 => ?_) fun h => coSkip <| eoT <| coZ <| qR 3 [] k1 fun w2 k2 => ?_
  · have h0 : v = 0 := by simpa using h
    obtain ⟨w3, r1, r2, r3⟩ := (hM.below k2.touch.below).drop ha 0
    refine wM (xDelete r1) <| wT <| coRet <| eoTr <| eoVr ⟨rfl, ?_, (grown_of_below k2.touch.below _).trans r3⟩
    unfold stepS
    rw [if_pos h0]
    exact World.ownsMap.mono r2 (Nat.le_succ _)
  · have h0 : v ≠ 0 := by simpa using h
    obtain ⟨w3, r1, r2, r3⟩ := (hM.below k2.touch.below).store hn ha hv
    refine wD (xUpdate r1) <| woE <| eoV ⟨rfl, ?_, (grown_of_below k2.touch.below _).trans r3⟩
    unfold stepS
    rw [if_neg h0]
    exact r2
def collB (A : Option Addr) (n cap b : Nat) (x : LoopK) : List Value := [.slice A n cap, x.y 1, x.y 2, .map (some b), x.y 4, x.y 5, x.y 6, .slice A n cap, .int .i64 (n : Int), .int .i64 (x.k : Int), x.y 10, x.y 11, x.y 12, x.y 13, x.y 14, x.y 15, x.y 16, x.y 17, x.y 18, x.y 19, x.y 20]
def collI (w : World) (b : Nat) (l : List (Int × Int)) (x : LoopK) (W : World) : Prop := Below w.heap.size w W ∧ MapAt W b x.k (mkS (l.take x.k)) ∧ x.k ≤ l.length
theorem ccollect_any (A : Option Addr) (cap : Nat) (l : List (Int × Int)) (hl : l.length ≤ 1000000000) (h16 : Cells16 l) (w : World) (hin : CellsIn w w.heap.size A l) :
    Calls Tryz.prog 45 #[.slice A l.length cap] w fun e w' => ∃ b, w.heap.size ≤ b ∧ e = .returned (.map (some b)) ∧ MapAt w' b l.length (mkS l) ∧ Below w.heap.size w w' := by
  go_enter Tryz.func45, Tryz.ntmps45
  refine coStart <| qQ [] (Many.begin w) fun w1 k1 => coR <| wM (xMakeMap (run_makeMap _ w1)) <| qE [] (Many.begin _) fun w2 k2 => coS <| qQ [] (Many.begin w2) fun w3 k3 => coB <| ?_
  obtain ⟨b, hb⟩ : ∃ b, b = w1.heap.size := ⟨_, rfl⟩
  have hwb : w.heap.size ≤ b := by rw [hb]; exact k1.touch.size
  have hB1 : Below w.heap.size w (w1.alloc (.map #[] 0)) := k1.touch.below.trans ((Below.alloc (Below.refl _ _) (Nat.le_refl _) _).mono k1.touch.size)
  have hB3 := bOn (bOn hB1 k2) k3
  have hM3 : MapAt w3 b 0 [] := by rw [hb]; exact ((MapAt.made w1).below k2.touch.below).below k3.touch.below
  refine coLoop (collB A l.length cap b) (collI w b l) (fun x => l.length - x.k) (fun y => ⟨0, y⟩) ⟨hB3, hM3, Nat.zero_le _⟩ ?_ (by rw [hb]; kernel_rfl)
  clear hM3 hB3 hB1 k3 k2 k1 hb
  rintro ⟨k, y⟩ W ⟨hB, hM, hk⟩
  have hk : k ≤ l.length := hk
  have hM : MapAt W b k (mkS (l.take k)) := hM
  refine qQ [] (Many.begin W) fun wa ka => coS <| coI (decide ((k : Int) < (l.length : Int))) (fun hlt => coSkip <| eoT <| coS <| coB <| ?_) fun hge => coX <| eoTx <| eoTx <| eoBx <| eoT ?_
  · have hlt : k < l.length := by have : (k : Int) < (l.length : Int) := by simpa using hlt
                                  omega
    obtain ⟨p, rfl, hp, h1, h2⟩ := (hin.below (bOn hB ka)).at_ hlt
    have hc := h16 _ (List.getElem_mem hlt)
    refine coR <| wM (xIndex (cixC p l.length cap k hlt _)) <| wM (xLoad (ldCell h1 h2)) <| qE [0] ka fun wb kb => coZ <| qR 5 [0, 0] kb fun wc kc => ?_
    refine kO (cstore_any _ b k _ l[k].1 l[k].2 ⟨hc.1, hc.2.1⟩ ⟨hc.2.2.1, hc.2.2.2⟩ (hM.below kc.touch.below) (by simp only [maxLen]; omega)) fun wd ⟨hMd, hgd⟩ => woE <| eoB <| eoT <| coZ <| wM (xInc k (by omega)) <| qF [] (Many.begin wd) fun we ke => eoRound (fun y => ⟨k + 1, y⟩) ⟨bOn (below_some (bOn hB kc) hgd hwb (bOn hB kc).size) ke, ?_, hlt⟩ (by show l.length - (k + 1) < l.length - k; omega)
    show MapAt we b (k + 1) (mkS (l.take (k + 1)))
    rw [take_snoc l k hlt, mkS_snoc]
    exact hMd.below ke.touch.below
  · have hkl : k = l.length := by have : ¬ ((k : Int) < (l.length : Int)) := by simpa using hge
                                  omega
    subst hkl
    refine qQ [] (Many.begin wa) fun wz kz => coRet <| eoIr (.map (some b)) ⟨b, hwb, rfl, ?_, bOn (bOn hB ka) kz⟩
    rw [List.take_length] at hM
    exact (hM.below ka.touch.below).below kz.touch.below
def cgetB (A : Option Addr) (n cap : Nat) (at_ : Int) (x : LoopV) : List Value := [.slice A n cap, .int .u16 at_, x.y 2, x.y 3, x.y 4, .int .u8 x.v, x.y 6, x.y 7, .slice A n cap, .int .i64 (n : Int), .int .i64 (x.k : Int), x.y 11, x.y 12, x.y 13, x.y 14, x.y 15, x.y 16, x.y 17, x.y 18, x.y 19, x.y 20, x.y 21]
def cgetI (w : World) (l : List (Int × Int)) (at_ : Int) (x : LoopV) (W : World) : Prop := Below w.heap.size w W ∧ x.v = getC (l.take x.k) at_ ∧ x.k ≤ l.length
theorem getC_take (l : List (Int × Int)) (at_ : Int) (k : Nat) (h : k < l.length) : getC (l.take (k + 1)) at_ = if l[k].1 = at_ then l[k].2 else getC (l.take k) at_ := by rw [take_snoc l k h, getC_snoc]
theorem cget_any (A : Option Addr) (cap : Nat) (l : List (Int × Int)) (at_ : Int) (hl : l.length ≤ 1000000000) (w : World) (hin : CellsIn w w.heap.size A l) :
    Calls Tryz.prog 60 #[.slice A l.length cap, .int .u16 at_] w fun e w' => e = .returned (.int .u8 (getC l at_)) ∧ Below w.heap.size w w' := by
  go_enter Tryz.func60, Tryz.ntmps60
  refine coStart <| qQ [] (Many.begin w) fun w1 k1 => qQ [] k1 fun w2 k2 => coS <| qQ [] k2 fun w3 k3 => coB <| coLoop (cgetB A l.length cap at_) (cgetI w l at_) (fun x => l.length - x.k) (fun y => ⟨0, 0, y⟩) ⟨k3.touch.below, rfl, Nat.zero_le _⟩ ?_
  rintro ⟨k, v, y⟩ W ⟨hB, hv, hk⟩
  have hk : k ≤ l.length := hk
  have hv : v = getC (l.take k) at_ := hv
  refine qQ [] (Many.begin W) fun wa ka => coS <| coI (decide ((k : Int) < (l.length : Int))) (fun hlt => coSkip <| eoT <| coS <| coB <| ?_) fun hge => coX <| eoTx <| eoTx <| eoBx <| eoT ?_
  · have hlt : k < l.length := by have : (k : Int) < (l.length : Int) := by simpa using hlt
                                  omega
    obtain ⟨p, rfl, hp, h1, h2⟩ := (hin.below (bOn hB ka)).at_ hlt
    refine coR <| wM (xIndex (cixC p l.length cap k hlt _)) <| wM (xLoad (ldCell h1 h2)) <| qE [0] ka fun wb kb => qQ [0] kb fun wc kc => coI (l[k].1 == at_) (fun h => coZ <| qF [0] kc fun wd kd => eoB <| eoT <| coZ <| wM (xInc k (by omega)) <| qF [] kd fun we ke => eoRound (fun y => ⟨k + 1, l[k].2, y⟩) ⟨bOn hB ke, ?_, hlt⟩ (by show l.length - (k + 1) < l.length - k; omega)) fun h => coSkip <| eoB <| eoT <| coZ <| wM (xInc k (by omega)) <| qF [] kc fun we ke => eoRound (fun y => ⟨k + 1, v, y⟩) ⟨bOn hB ke, ?_, hlt⟩ (by show l.length - (k + 1) < l.length - k; omega)
    · show l[k].2 = getC (l.take (k + 1)) at_
      rw [getC_take l at_ k hlt, if_pos (by simpa using h)]
    · show v = getC (l.take (k + 1)) at_
      rw [getC_take l at_ k hlt, if_neg (by simpa using h)]
      exact hv
  · have hkl : k = l.length := by have : ¬ ((k : Int) < (l.length : Int)) := by simpa using hge
                                  omega
    subst hkl
    rw [List.take_length] at hv
    subst hv
    exact qQ [] ka fun wz kz => coRet <| eoIr (.int .u8 (getC l at_)) ⟨rfl, bOn hB kz⟩
def rcgetB (A : Option Addr) (n cap : Nat) (at_ : Int) (x : LoopV) : List Value := [.slice A n cap, .int .u16 at_, x.y 2, x.y 3, x.y 4, .int .u8 x.v, .int .i64 (x.k : Int), x.y 7, x.y 8, x.y 9, x.y 10, x.y 11, x.y 12, x.y 13, x.y 14, x.y 15, x.y 16, x.y 17, x.y 18, x.y 19, x.y 20, x.y 21, x.y 22, x.y 23, x.y 24, x.y 25]
theorem rcget_any (A : Option Addr) (cap : Nat) (l : List (Int × Int)) (at_ : Int) (hl : l.length ≤ 1000000000) (w : World) (hin : CellsIn w w.heap.size A l) :
    Calls Tryz.prog 24 #[.slice A l.length cap, .int .u16 at_] w fun e w' => e = .returned (.int .u8 (getC l at_)) ∧ Below w.heap.size w w' := by
  go_enter Tryz.func24, Tryz.ntmps24
  refine coStart <| qQ [] (Many.begin w) fun w1 k1 => qQ [] k1 fun w2 k2 => coS <| qQ [] k2 fun w3 k3 => coB <| coLoop (rcgetB A l.length cap at_) (cgetI w l at_) (fun x => l.length - x.k) (fun y => ⟨0, 0, y⟩) ⟨k3.touch.below, rfl, Nat.zero_le _⟩ ?_
  rintro ⟨k, v, y⟩ W ⟨hB, hv, hk⟩
  have hk : k ≤ l.length := hk
  have hv : v = getC (l.take k) at_ := hv
  refine coS <| qQ [] (Many.begin W) fun wa ka => coI (decide ((k : Int) < (l.length : Int))) (fun hlt => coSkip <| eoT <| coS <| coB <| ?_) fun hge => coX <| eoTx <| eoTx <| eoBx <| eoT ?_
  · have hlt : k < l.length := by have : (k : Int) < (l.length : Int) := by simpa using hlt
                                  omega
    obtain ⟨p, rfl, -⟩ := hin.at_ hlt
    refine coR <| qR 2 [] ka fun wb kb => wM (xIndex (cixC p l.length cap k hlt _)) <| wM (xField (fldC0 (p.add (k * 2)) _)) <| wM (xLoad ((hin.below (bOn hB kb)).ld0 hlt)) <| qE [] kb fun wc kc => coI (l[k].1 == at_) (fun h => coZ <| qR 2 [] kc fun wd kd => wM (xIndex (cixC p l.length cap k hlt _)) <| wM (xField (fldC1 (p.add (k * 2)) _)) <| wM (xLoad ((hin.below (bOn hB kd)).ld1 hlt)) <| qF [] kd fun we ke => eoB <| eoT <| coZ <| qR 1 [] ke fun wf kf => wM (xInc k (by omega)) <| qF [] kf fun wg kg => eoRound (fun y => ⟨k + 1, l[k].2, y⟩) ⟨bOn hB kg, ?_, hlt⟩ (by show l.length - (k + 1) < l.length - k; omega)) fun h => coSkip <| eoB <| eoT <| coZ <| qR 1 [] kc fun we ke => wM (xInc k (by omega)) <| qF [] ke fun wf kf => eoRound (fun y => ⟨k + 1, v, y⟩) ⟨bOn hB kf, ?_, hlt⟩ (by show l.length - (k + 1) < l.length - k; omega)
    · show l[k].2 = getC (l.take (k + 1)) at_
      rw [getC_take l at_ k hlt, if_pos (by simpa using h)]
    · show v = getC (l.take (k + 1)) at_
      rw [getC_take l at_ k hlt, if_neg (by simpa using h)]
      exact hv
  · have hkl : k = l.length := by have : ¬ ((k : Int) < (l.length : Int)) := by simpa using hge
                                  omega
    subst hkl
    rw [List.take_length] at hv
    subst hv
    exact qQ [] ka fun wz kz => coRet <| eoIr (.int .u8 (getC l at_)) ⟨rfl, bOn hB kz⟩
theorem cv16 (a : Int) (h : 0 ≤ a ∧ a ≤ 65535) (w : World) : (convert 22 3 (.int .u16 a)).run Tryz.prog w = .ok (.int .i64 a) w := by
  have e : IntKind.i64.wrap a = a := by rw [IntKind.wrap_i64]; omega
  simp [go_sem, e]
theorem guardI (op : BinOp) (x y : Operand) (a b : Int) (w : World) : (eqGuard op 3 x y (.int .i64 a) (.int .i64 b)).run Tryz.prog w = .ok () w := by simp [go_sem]
theorem cell_neq (a b c d : Int) (w : World) : (binOp .neq 67 (.agg #[.int .u16 a, .int .u8 b]) (.agg #[.int .u16 c, .int .u8 d])).run Tryz.prog w = .ok (.bool (!(a == c && b == d))) w := by
  by_cases h1 : a = c <;> by_cases h2 : b = d <;> simp [go_sem, h1, h2]
theorem cell_guard (op : BinOp) (x y : Operand) (a b c d : Int) (w : World) : (eqGuard op 67 x y (.agg #[.int .u16 a, .int .u8 b]) (.agg #[.int .u16 c, .int .u8 d])).run Tryz.prog w = .ok () w := by
  simp [go_sem]
def csameB (A : Option Addr) (n cap : Nat) (A' : Option Addr) (n' cap' : Nat) (x : LoopK) : List Value := [.slice A n cap, .slice A' n' cap', x.y 2, x.y 3, x.y 4, .int .i64 (x.k : Int), x.y 6, x.y 7, x.y 8, x.y 9, x.y 10, x.y 11, x.y 12, x.y 13, x.y 14, x.y 15, x.y 16, x.y 17, x.y 18, x.y 19, x.y 20, x.y 21, x.y 22, x.y 23, x.y 24, x.y 25]
def csameI (w : World) (l m : List (Int × Int)) (x : LoopK) (W : World) : Prop := Below w.heap.size w W ∧ l.take x.k = m.take x.k ∧ x.k ≤ l.length
theorem csame_any (A : Option Addr) (cap : Nat) (l : List (Int × Int)) (A' : Option Addr) (cap' : Nat) (m : List (Int × Int)) (hl : l.length ≤ 1000000000) (w : World) (hin : CellsIn w w.heap.size A l) (hin' : CellsIn w w.heap.size A' m) :
    Calls Tryz.prog 14 #[.slice A l.length cap, .slice A' m.length cap'] w fun e w' => e = .returned (.bool (decide (l = m))) ∧ Below w.heap.size w w' := by
  go_enter Tryz.func14, Tryz.ntmps14
  refine coStart <| qQ [] (Many.begin w) fun w1 k1 => coS <| qQ [] k1 fun w2 k2 => coI ((l.length : Int) != (m.length : Int)) (fun h => ?_) fun h => ?_
  · have hne : l ≠ m := fun e => by rw [e] at h; simp at h
    exact qQ [] k2 fun w3 k3 => coRet <| eoTr <| eoIr (.bool false) ⟨by rw [decide_eq_false hne], k3.touch.below⟩
  have hlm : l.length = m.length := by have : ((l.length : Int) = (m.length : Int)) := by simpa using h
                                       omega
  refine coSkip <| eoT <| coS <| qQ [] k2 fun w3 k3 => coB <| coLoop (csameB A l.length cap A' m.length cap') (csameI w l m) (fun x => l.length - x.k) (fun y => ⟨0, y⟩) ⟨k3.touch.below, rfl, Nat.zero_le _⟩ ?_
  rintro ⟨k, y⟩ W ⟨hB, hv, hk⟩
  have hk : k ≤ l.length := hk
  have hv : l.take k = m.take k := hv
  refine coS <| qQ [] (Many.begin W) fun wa ka => coI (decide ((k : Int) < (l.length : Int))) (fun hlt => coSkip <| eoT <| coS <| coB <| ?_) fun hge => coX <| eoTx <| eoTx <| eoBx <| eoT ?_
  · have hlt : k < l.length := by have : (k : Int) < (l.length : Int) := by simpa using hlt
                                  omega
    have hlt' : k < m.length := by omega
    obtain ⟨p, rfl, -⟩ := hin.at_ hlt
    obtain ⟨q, rfl, -⟩ := hin'.at_ hlt'
    refine coD 8 (bOn hB ka) fun wb hb hB2 => qM [0, 1] hB2 <| qT 2 hB2 (fun w' _ => xIndex (cixC p l.length cap k hlt _)) <| qT 3 hB2 (fun w' hS => xLoad ((hin.below hS).ldW hlt)) <| qM [4, 5] hB2 <| qT 6 hB2 (fun w' _ => xIndex (cixC q m.length cap' k hlt' _)) <| qT 7 hB2 (fun w' hS => xLoad ((hin'.below hS).ldW hlt')) <| poE <| wM (xBin (cell_guard _ _ _ l[k].1 l[k].2 m[k].1 m[k].2 _) (cell_neq l[k].1 l[k].2 m[k].1 m[k].2 _)) <| wT <| coI (!(l[k].1 == m[k].1 && l[k].2 == m[k].2)) (fun h => ?_) fun h => ?_
    · have hne : l ≠ m := fun e => by subst e; simp at h
      exact qQ [] (Many.begin wb) fun w3 k3 => coRet <| eoBr <| eoTr <| eoTr <| eoBr <| eoTr <| eoIr (.bool false) ⟨by rw [decide_eq_false hne], bOn hB2 k3⟩
    · have he : l[k] = m[k] := by
        simp at h
        exact Prod.ext h.1 h.2
      refine coSkip <| eoB <| eoT <| coZ <| qR 1 [] (Many.begin wb) fun we ke => wM (xInc k (by omega)) <| qF [] ke fun wf kf => eoRound (fun y => ⟨k + 1, y⟩) ⟨bOn hB2 kf, ?_, hlt⟩ (by show l.length - (k + 1) < l.length - k; omega)
      show l.take (k + 1) = m.take (k + 1)
      rw [take_snoc l k hlt, take_snoc m k hlt', hv, he]
  · have hkl : k = l.length := by have : ¬ ((k : Int) < (l.length : Int)) := by simpa using hge
                                  omega
    subst hkl
    have e : l = m := by
      have := hv
      rw [List.take_length, hlm, List.take_length] at this
      exact this
    exact qQ [] ka fun wz kz => coRet <| eoIr (.bool true) ⟨by rw [decide_eq_true e], bOn hB kz⟩
theorem bsC (a b : Int) (w : World) : (Instr.buildSlice 25 1 #[(0, .agg #[.int .u16 a, .int .u8 b])]).run Tryz.prog w = .ok (.slice (some ⟨w.heap.size, 0, none⟩) 1 1) (w.alloc (.cells #[.int .u16 a, .int .u8 b] 67)) := by simp [go_sem]
theorem ccell_new (w : World) (a b : Int) (t : TypeId) : CellsIn (w.alloc (.cells #[.int .u16 a, .int .u8 b] t)) (w.heap.size + 1) (some ⟨w.heap.size, 0, none⟩) [(a, b)] :=
  CellsIn.of_values (by simp) (cells_list_new' w [.int .u16 a, .int .u8 b] t)
structure RMakeO where
  out : List (Int × Int)
  last : Int
  v : Value
  y : Nat → Value
structure RMakeI where
  k : Nat
  best : Int
  y : Nat → Value
def rcmakeB (A : Option Addr) (n cap : Nat) (x : RMakeO) : List Value := [.slice A n cap, x.y 1, x.y 2, x.v, .int .i64 x.last, x.y 5, x.y 6, x.y 7, x.y 8, x.y 9, x.y 10, x.y 11, x.y 12, x.y 13, x.y 14, x.y 15, x.y 16, x.y 17, x.y 18, x.y 19, x.y 20, x.y 21, x.y 22, x.y 23, x.y 24, x.y 25, x.y 26, x.y 27, x.y 28, x.y 29, x.y 30, x.y 31, x.y 32, x.y 33, x.y 34, x.y 35, x.y 36, x.y 37, x.y 38, x.y 39, x.y 40, x.y 41, x.y 42, x.y 43, x.y 44, x.y 45, x.y 46, x.y 47, x.y 48, x.y 49, x.y 50, x.y 51, x.y 52]
def rcmakeC (A : Option Addr) (n cap : Nat) (v : Value) (last : Int) (x : RMakeI) : List Value := [.slice A n cap, x.y 1, x.y 2, v, .int .i64 last, .int .i64 x.best, .int .i64 (x.k : Int), x.y 7, x.y 8, x.y 9, x.y 10, x.y 11, x.y 12, x.y 13, x.y 14, x.y 15, x.y 16, x.y 17, x.y 18, x.y 19, x.y 20, x.y 21, x.y 22, x.y 23, x.y 24, x.y 25, x.y 26, x.y 27, x.y 28, x.y 29, x.y 30, x.y 31, x.y 32, x.y 33, x.y 34, x.y 35, x.y 36, x.y 37, x.y 38, x.y 39, x.y 40, x.y 41, x.y 42, x.y 43, x.y 44, x.y 45, x.y 46, x.y 47, x.y 48, x.y 49, x.y 50, x.y 51, x.y 52]
def rcmakeI (w w0 : World) (l : List (Int × Int)) (x : RMakeO) (W : World) : Prop := Below w.heap.size w W ∧ W.ownsRow w.heap.size 67 2 x.v x.out.length (cvs x.out) ∧ (-1 ≤ x.last ∧ x.last ≤ 65535) ∧ ∃ rest, mkS l = x.out ++ rest ∧ (∀ p ∈ x.out, p.1 ≤ x.last) ∧ ∀ p ∈ rest, x.last < p.1
def rcmakeJ (w w0 : World) (l out : List (Int × Int)) (v : Value) (last : Int) (x : RMakeI) (W : World) : Prop := Below w.heap.size w W ∧ W.ownsRow w.heap.size 67 2 v out.length (cvs out) ∧ x.best = nextB l last (l.take x.k) ∧ x.k ≤ l.length
theorem rcmake_own (A : Option Addr) (cap : Nat) (l : List (Int × Int)) (hl : l.length ≤ 1000000000) (h16 : Cells16 l) (w : World) (hin : CellsIn w w.heap.size A l) :
    Calls Tryz.prog 22 #[.slice A l.length cap] w fun e w' => ∃ v, e = .returned v ∧ w'.ownsRow w.heap.size 67 2 v (mkS l).length (cvs (mkS l)) ∧ Below w.heap.size w w' := by
  go_enter Tryz.func22, Tryz.ntmps22
  refine coStart <| qQ [] (Many.begin w) fun w1 k1 => qQ [] k1 fun w2 k2 => qQ [] k2 fun w3 k3 => coB <| coLoop (rcmakeB A l.length cap) (rcmakeI w w l) (fun x => (mkS l).length - x.out.length) (fun y => ⟨[], -1, .slice none 0 0, y⟩) ⟨k3.touch.below, World.ownsRow_nil .., ⟨by show (-1 : Int) ≤ -1; omega, by show (-1 : Int) ≤ 65535; omega⟩, mkS l, rfl, fun _ h => (by cases h), fun p hp => (by have := (c16_mkS h16 p hp).1; show -1 < p.1; omega)⟩ ?_
  rintro ⟨out, last, v, y⟩ W ⟨hB, hown, hlast, rest, hm, ho, hr⟩
  have hown : W.ownsRow w.heap.size 67 2 v out.length (cvs out) := hown
  have hlast : -1 ≤ last ∧ last ≤ 65535 := hlast
  have hm : mkS l = out ++ rest := hm
  have ho : ∀ p ∈ out, p.1 ≤ last := ho
  have hr : ∀ p ∈ rest, last < p.1 := hr
  refine coB <| qQ [] (Many.begin W) fun wa ka => coS <| qQ [] ka fun wb kb => coB <| coLoop (rcmakeC A l.length cap v last) (rcmakeJ w w l out v last) (fun x => l.length - x.k) (fun y => ⟨0, 65536, y⟩) ⟨bOn hB kb, own_below hown kb.touch.below, rfl, Nat.zero_le _⟩ ?_
  rintro ⟨k, best, y2⟩ W2 ⟨hB2, hown2, hbest, hk⟩
  have hk : k ≤ l.length := hk
  have hown2 : W2.ownsRow w.heap.size 67 2 v out.length (cvs out) := hown2
  have hbest : best = nextB l last (l.take k) := hbest
  refine coS <| qQ [] (Many.begin W2) fun wc kc => coI (decide ((k : Int) < (l.length : Int))) (fun hlt => coSkip <| eoT <| coS <| coB <| ?_) fun hge => coX <| eoTx <| eoTx <| eoBx <| eoT ?_
  · have hlt : k < l.length := by have : (k : Int) < (l.length : Int) := by simpa using hlt
                                  omega
    obtain ⟨p, rfl, -⟩ := hin.at_ hlt
    have hc := h16 _ (List.getElem_mem hlt)
    have hB3 := bOn hB2 kc
    have hown3 := own_below hown2 kc.touch.below
    refine coR <| qR 2 [] kc fun wd kd => wM (xIndex (cixC p l.length cap k hlt _)) <| wM (xField (fldC0 (p.add (k * 2)) _)) <| wM (xLoad ((hin.below (bOn hB2 kd)).ld0 hlt)) <| wM (xConv (cv16 l[k].1 ⟨hc.1, hc.2.1⟩ _)) <| qE [] kd fun we ke => coR <| qR 4 [] ke fun wf kf => ?_
    have key : ∀ (y' : Nat → Value) (W3 : World) (b : Int), Below W2.heap.size W2 W3 → b = pickB l last best l[k] → rcmakeJ w w l out v last ⟨k + 1, b, y'⟩ W3 := fun y' W3 b h e => ⟨hB2.trans (h.mono hB2.size), own_below hown2 h, by
      show b = nextB l last (l.take (k + 1))
      rw [nextB_snoc l last l k hlt, ← hbest, e], hlt⟩
    by_cases g1 : l[k].1 > last
    · refine tell 23 (decide_eq_true g1) <| qR 5 [] kf fun wg kg => ?_
      by_cases g2 : l[k].1 < best
      · refine tell 28 (decide_eq_true g2) <| qR 3 [] kg fun wh kh => wM (xIndex (cixC p l.length cap k hlt _)) <| wM (xField (fldC0 (p.add (k * 2)) _)) <| wM (xLoad ((hin.below (bOn hB2 kh)).ld0 hlt)) <| kO (rcget_any (some p) cap l l[k].1 hl _ ((hin.below (bOn hB2 kh)).more (bOn hB2 kh).size)) fun wi hbi => qE [] (kh.below hbi) fun wj kj => coI (getC l l[k].1 != 0) (fun g3 => coZ <| qF [] kj fun wk kk => eoB <| eoT <| coZ <| qR 1 [] kk fun wx kx => wM (xInc k (by omega)) <| qF [] kx fun wy ky => eoRound (fun y => ⟨k + 1, l[k].1, y⟩) (key _ _ _ ky.touch.below ?_) (by show l.length - (k + 1) < l.length - k; omega)) fun g3 => coSkip <| eoB <| eoT <| coZ <| qR 1 [] kj fun wx kx => wM (xInc k (by omega)) <| qF [] kx fun wy ky => eoRound (fun y => ⟨k + 1, best, y⟩) (key _ _ _ ky.touch.below ?_) (by show l.length - (k + 1) < l.length - k; omega)
        · exact (if_pos (by rw [decide_eq_true g1, decide_eq_true g2, g3]; rfl)).symm
        · exact (if_neg (by rw [g3]; simp)).symm
      · refine tell 28 (decide_eq_false g2) <| qE [] kg fun wh kh => coF <| coSkip <| eoB <| eoT <| coZ <| qR 1 [] kh fun wx kx => wM (xInc k (by omega)) <| qF [] kx fun wy ky => eoRound (fun y => ⟨k + 1, best, y⟩) (key _ _ _ ky.touch.below ?_) (by show l.length - (k + 1) < l.length - k; omega)
        exact (if_neg (by rw [decide_eq_false g2]; simp)).symm
    · refine tell 23 (decide_eq_false g1) <| qE [] kf fun wh kh => coF <| coSkip <| eoB <| eoT <| coZ <| qR 1 [] kh fun wx kx => wM (xInc k (by omega)) <| qF [] kx fun wy ky => eoRound (fun y => ⟨k + 1, best, y⟩) (key _ _ _ ky.touch.below ?_) (by show l.length - (k + 1) < l.length - k; omega)
      exact (if_neg (by rw [decide_eq_false g1]; simp)).symm
  · have hkl : k = l.length := by have : ¬ ((k : Int) < (l.length : Int)) := by simpa using hge
                                  omega
    subst hkl
    rw [List.take_length, nextB_nil h16 hm ho hr] at hbest
    have hB3 := bOn hB2 kc
    have hown3 := own_below hown2 kc.touch.below
    refine coS <| qQ [] kc fun wd kd => coI (best == 65536) (fun g => ?_) fun g => coSkip <| eoT ?_
    · have hrest : rest = [] := by
        have g : best = 65536 := by simpa using g
        cases rest with
        | nil => rfl
        | cons d r =>
          have h := (c16_mkS h16 d (by rw [hm]; simp)).2.1
          rw [g] at hbest
          simp only at hbest
          omega
      subst hrest
      rw [List.append_nil] at hm
      rw [hm]
      exact qQ [] kd fun we ke => coRet <| eoTr <| eoBr <| eoTr <| eoBr <| eoIr v ⟨v, rfl, own_below hown2 ke.touch.below, bOn hB2 ke⟩
    · obtain ⟨d, r, rfl⟩ : ∃ d r, rest = d :: r := by
        cases rest with
        | nil => simp only at hbest; rw [hbest] at g; simp at g
        | cons d r => exact ⟨d, r, rfl⟩
      simp only at hbest
      subst hbest
      have hd : d ∈ mkS l := by rw [hm]; simp
      have hc := c16_mkS h16 d hd
      have hg : getC l d.1 = d.2 := ((mem_mkS l d).1 hd).1
      refine coR <| qR 2 [] kd fun we ke => wM (xConv (cvI16 d.1 ⟨hc.1, hc.2.1⟩ _)) <| qR 2 [] ke fun wf kf => wM (xConv (cvI16 d.1 ⟨hc.1, hc.2.1⟩ _)) <| kO (rcget_any A cap l d.1 hl _ ((hin.below (bOn hB2 kf)).more (bOn hB2 kf).size)) fun wg hbg => qR 1 [] (kf.below hbg) fun wh kh => wM (xBuildS (bsC d.1 (getC l d.1) wh)) <| ?_
      have hlen : out.length + 1 ≤ 1000000000 := by
        have h1 := len_mkS l
        rw [hm] at h1
        simp at h1
        omega
      refine qAc (.tmp 42) (.tmp 50) w.heap.size _ v out.length out (some ⟨wh.heap.size, 0, none⟩) 1 [(d.1, getC l d.1)] (bAlloc (bOn hB2 kh) _).size ((own_below hown2 kh.touch.below).alloc _) (ccell_new wh d.1 (getC l d.1) _) (fun e => by cases e) (by show out.length + 1 ≤ _; omega) fun v' wi own' hgr => ?_
      have hBi := below_own (bAlloc (bOn hB2 kh) _) hgr ((own_below hown2 kh.touch.below).alloc _) (Nat.le_refl _) (bAlloc (bOn hB2 kh) _).size
      refine qE [] (Many.begin wi) fun wj kj => coZ <| qF [] kj fun wk kk => eoB <| eoRound (fun y => ⟨out ++ [d], d.1, v', y⟩) ⟨bOn hBi kk, ?_, ⟨by show -1 ≤ d.1; have := hc.1; omega, hc.2.1⟩, r, ?_, ?_, ?_⟩ ?_
      · rw [hg] at own'
        show wk.ownsRow _ _ _ v' (out ++ [d]).length _
        rw [List.length_append]
        exact own_below own' kk.touch.below
      · show mkS l = (out ++ [d]) ++ r
        rw [hm, List.append_assoc]; rfl
      · intro p hp
        show p.1 ≤ d.1
        rcases List.mem_append.1 hp with hp | hp
        · have h1 := ho p hp
          have h2 := hr d (by simp)
          omega
        · simp at hp; rw [hp]; omega
      · intro p hp
        have hs : Srt (out ++ d :: r) := by rw [← hm]; exact srt_mkS l
        exact (List.pairwise_cons.1 (List.pairwise_append.1 hs).2.1).1 p hp
      · show (mkS l).length - (out ++ [d]).length < (mkS l).length - out.length
        rw [hm]
        simp
        omega
theorem rcmake_any (A : Option Addr) (cap : Nat) (l : List (Int × Int)) (hl : l.length ≤ 1000000000) (h16 : Cells16 l) (w : World) (hin : CellsIn w w.heap.size A l) :
    Calls Tryz.prog 22 #[.slice A l.length cap] w fun e w' => ∃ A' c, e = .returned (.slice A' (mkS l).length c) ∧ CellsIn w' w'.heap.size A' (mkS l) ∧ (mkS l).length ≤ c ∧ (A' = none → c = 0) ∧ Below w.heap.size w w' :=
  (rcmake_own A cap l hl h16 w hin).mono fun e w' ⟨v, h1, h2, h3⟩ => by
    obtain ⟨A', c, rfl, hc, hci, hn⟩ := own_cslice h2
    exact ⟨A', c, h1, hci, hc, hn, h3⟩
abbrev blocksO (rs : List RowK) : List Nat := rs.map (·.b)
theorem Many.rebase {w0 w : World} {L : List Nat} {rs : List RowK} (h : Many w0 L rs w) : Many w (blocksO rs) rs w :=
  ⟨h.rows, h.dis, fun i r hr => .inl (List.mem_map.2 ⟨r, List.mem_of_getElem? hr, rfl⟩), .refl ..⟩
theorem Many.anew {w0 w w' : World} {L : List Nat} {rs : List RowK} {b : Nat} (h : Many w0 L rs w) (k : w.grownBy w' (some b)) (hn : ∀ (i : Nat) (r : RowK), rs[i]? = some r → r.b ≠ b) : Many w' (blocksO rs) rs w' :=
  ⟨fun i r hr => by obtain ⟨full, h1, h2⟩ := h.rows i r hr; exact ⟨full, h1.of (k.block r.b h1.lt (by simpa using hn i r hr)), h2⟩, h.dis, fun i r hr => .inl (List.mem_map.2 ⟨r, List.mem_of_getElem? hr, rfl⟩), .refl ..⟩
theorem Many.rebaseL {w0 w : World} {L : List Nat} {rs : List RowK} (h : Many w0 L rs w) (L' : List Nat) (e : blocksO rs = L' := by kernel_rfl) : Many w L' rs w := e ▸ h.rebase
theorem Many.anewL {w0 w w' : World} {L : List Nat} {rs : List RowK} {b : Nat} (h : Many w0 L rs w) (k : w.grownBy w' (some b)) (L' : List Nat) (hn : ∀ x ∈ L', x ≠ b) (e : blocksO rs = L' := by kernel_rfl) : Many w' L' rs w' := by
  subst e
  exact h.anew k fun i r hr => hn _ (List.mem_map.2 ⟨r, List.mem_of_getElem? hr, rfl⟩)
theorem Touch.underL {L : List Nat} {n : Nat} {w w' w1 : World} (h : Touch L w w') (k : Below n w1 w) (hL : ∀ b ∈ L, n ≤ b) (hn : n ≤ w.heap.size) : Below n w1 w' :=
  ⟨h.os.trans k.os, h.tape.trans k.tape, h.output.trans k.output, Nat.le_trans k.size h.size, fun b hb => (h.block b (Nat.lt_of_lt_of_le hb hn) fun hm => by have := hL b hm; omega).trans (k.block b hb)⟩
theorem Many.low {w0 w : World} {rs : List RowK} (h : Many w0 [] rs w) : ∀ b ∈ blocksO rs, w0.heap.size ≤ b := fun b hb => by
  obtain ⟨r, hr, rfl⟩ := List.mem_map.1 hb
  obtain ⟨i, hi⟩ := List.getElem?_of_mem hr
  rcases h.own i r hi with e | e
  · cases e
  · exact e
theorem run_insert_any {P : Program} (W : World) (t kt et : TypeId) (ht : P.underlying t = some (.map kt et)) (hk : P.underlying kt = some (.int .i64)) (es : List MapEntry) (clock : Nat) (n : Int) (val : Value) (b : Nat)
    (hb : W.heap[b]? = some (.map es.toArray clock)) (hnew : Instr.findNow (.int .i64) (.int .i64 n) es 0 = some none) :
    ∃ W', (Instr.mapUpdate t (.map (some b)) (.int .i64 n) val).run P W = .ok () W' ∧ W'.heap[b]? = some (.map (es ++ [({ key := .int .i64 n, val := val, born := clock } : MapEntry)]).toArray (clock + 1)) ∧ W.grownBy W' (some b) := by
  have hlt := (Array.getElem?_eq_some_iff.1 hb).1
  refine ⟨{ W with heap := W.heap.setIfInBounds b (.map (es ++ [({ key := .int .i64 n, val := val, born := clock } : MapEntry)]).toArray (clock + 1)) }, ?_, by simp [hlt], ⟨rfl, rfl, rfl, by simp, fun i hi hne => by
    show (W.heap.setIfInBounds b _)[i]? = _
    rw [Array.getElem?_setIfInBounds]
    rw [if_neg (fun e => hne (by rw [e]))]⟩⟩
  simp [Instr.mapUpdate, run_underlying ht, MapKept.run_getObj_map hb, MapKept.run_checkKey hk (k := .int .i64 n) (by simp [MapKept.IsKey]) false 9999, MapKept.run_findKey hk hnew, MapKept.run_setObj_map _ hb, Result.andThen]
section
variable {P : Program} {ρ : Operand → Value} {o : Oper} {x y z : Operand} {V W R U : Value}
theorem xInsert {t : TypeId} {w w' : World} (hl : (Instr.mapUpdate t V W U).run P w = .ok () w') (ho : o.op = .insert t x y z := by exact rfl) (hx : ρ x = V := by kernel_rfl) (hy : ρ y = W := by kernel_rfl) (hz : ρ z = U := by kernel_rfl) : (execOp ρ o).run P w = .ok .skip w' := by
  unfold execOp
  simp only [ho, hx, hy, hz, Sem.run_bind, Sem.run_pure, hl, Result.andThen_ok]
end
end Go.Proofs.YtkgaeamdhhceiaaGreatDoor
