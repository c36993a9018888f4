/- Layer 14 (cells): the map that holds a memory's content. Nothing of the program but the numbers of its types. -/
import Derived.Test.YtahnejcfengljaaCellsMem
import Derived.Maps.RangeWalk
namespace Go.Proofs.Ytahnejcfengljaa
open Go.RowKit
set_option linter.unusedVariables false
set_option linter.unusedSimpArgs false
set_option maxRecDepth 20000

/-- block b is a map of at most n entries, which are m -/
def MapAt (w : World) (b n : Nat) (m : List (Int × Int)) : Prop := w.ownsMap Try.prog 23 (plainElem (H := Unit) Try.prog 5) b n (dm m)
theorem keyed16 : Maps.Keyed Try.prog 23 := Maps.int_keyed Try.underlying23
theorem wf16 {a : Int} (h : 0 ≤ a ∧ a ≤ 65535) : (Lit.int .u16 a).wf = true := by simp [Lit.wf, IntKind.min, IntKind.max, IntKind.bits, IntKind.signed]; omega
theorem wf8 {a : Int} (h : 0 ≤ a ∧ a ≤ 255) : (Lit.int .u8 a).wf = true := by simp [Lit.wf, IntKind.min, IntKind.max, IntKind.bits, IntKind.signed]; omega
theorem of_wf16 {a : Int} (h : (Lit.int .u16 a).wf = true) : 0 ≤ a ∧ a ≤ 65535 := by simp [Lit.wf, IntKind.min, IntKind.max, IntKind.bits, IntKind.signed] at h; omega
theorem of_wf8 {a : Int} (h : (Lit.int .u8 a).wf = true) : 0 ≤ a ∧ a ≤ 255 := by simp [Lit.wf, IntKind.min, IntKind.max, IntKind.bits, IntKind.signed] at h; omega
theorem key16 {a : Int} (h : 0 ≤ a ∧ a ≤ 65535) : keyOf Try.prog 23 (.int .u16 a) = some (.int .u16 a) := Maps.keyOf_int_mk Try.underlying23 (wf16 h)
theorem zero8 (w : World) : (zeroValue 5).run Try.prog w = .ok (.int .u8 0) w := by kernel_rfl
theorem mapT : Try.prog.underlying 40 = some (.map 23 5) := Try.underlying40
theorem MapAt.made (w : World) : MapAt (w.alloc (.map #[] 0)) w.heap.size 0 [] := World.ownsMap_made w _ _ _
theorem MapAt.lt {w : World} {b n : Nat} {m : List (Int × Int)} (h : MapAt w b n m) : b < w.heap.size := World.ownsMap.lt h
theorem MapAt.grown {w w' : World} {b n : Nat} {m : List (Int × Int)} {row : Option Nat} (h : MapAt w b n m) (k : w.grownBy w' row) (hb : some b ≠ row) : MapAt w' b n m := World.ownsMap.kept h k hb
theorem MapAt.below {w w' : World} {b n : Nat} {m : List (Int × Int)} (h : MapAt w b n m) (k : Below w.heap.size w w') : MapAt w' b n m :=
  h.grown (row := none) ⟨k.os, k.tape, k.output, k.size, fun i hi _ => k.block i hi⟩ (by simp)
theorem MapAt.size {w : World} {b n : Nat} {m : List (Int × Int)} (h : MapAt w b n m) : m.length ≤ n := by
  have := World.ownsMap.size_le h
  rwa [dm_size] at this
/-- m[a] -/
theorem MapAt.look {w : World} {b n : Nat} {m : List (Int × Int)} (h : MapAt w b n m) (hs : Srt m) {a : Int} (ha : 0 ≤ a ∧ a ≤ 65535) : (Instr.lookup 40 (.map (some b)) (.int .u16 a) false).run Try.prog w = .ok (.int .u8 (getC m a)) w := by
  obtain ⟨c, hrun, hat, -⟩ := World.ownsMap.lookup_int h keyed16 mapT Try.underlying5 (zero8 w) (key16 ha)
  rw [dm_at hs] at hat
  simp at hat
  rw [hat]
  exact hrun
/-- m[a] = v -/
theorem MapAt.store {w : World} {b n : Nat} {m : List (Int × Int)} (h : MapAt w b n m) (hn : n < maxLen) {a v : Int} (ha : 0 ≤ a ∧ a ≤ 65535) (hv : 0 ≤ v ∧ v ≤ 255) :
    ∃ w', (Instr.mapUpdate 40 (.map (some b)) (.int .u16 a) (.int .u8 v)).run Try.prog w = .ok () w' ∧ MapAt w' b (n + 1) (putS a v m) ∧ w.grownBy w' (some b) := by
  obtain ⟨w', h1, h2, h3⟩ := World.ownsMap.update h keyed16 mapT hn (key16 ha) (plainElem_int Try.underlying5 (wf8 hv))
  rw [dm_put] at h2
  exact ⟨w', h1, h2, h3⟩
/-- delete(m, a) -/
theorem MapAt.drop {w : World} {b n : Nat} {m : List (Int × Int)} (h : MapAt w b n m) {a : Int} (ha : 0 ≤ a ∧ a ≤ 65535) (ty : TypeId) :
    ∃ w', (Builtin.delete_ #[40, 23] ty #[.map (some b), .int .u16 a]).run Try.prog w = .ok (.tuple #[]) w' ∧ MapAt w' b n (delS a m) ∧ w.grownBy w' (some b) := by
  obtain ⟨w', h1, h2, h3⟩ := World.ownsMap.drop h keyed16 mapT (key16 ha) ty
  rw [dm_del] at h2
  exact ⟨w', h1, h2, h3.grown⟩
/-- a range over it is under way: it stands in block r; 'left' of what is still to come, cnt entries -/
def RangeAt (w : World) (b r n : Nat) (m : List (Int × Int)) (left : Int → Bool) (cnt : Nat) : Prop := ∃ lf, (∀ x, lf (.int .u16 x) = left x) ∧ w.ranges Try.prog 23 (plainElem (H := Unit) Try.prog 5) b r n (dm m) lf cnt
theorem RangeAt.lt {w : World} {b r n : Nat} {m : List (Int × Int)} {left : Int → Bool} {cnt : Nat} (h : RangeAt w b r n m left cnt) : r < w.heap.size := by obtain ⟨lf, -, h⟩ := h; exact h.lt
theorem RangeAt.map {w : World} {b r n : Nat} {m : List (Int × Int)} {left : Int → Bool} {cnt : Nat} (h : RangeAt w b r n m left cnt) : MapAt w b n m := by obtain ⟨lf, -, h⟩ := h; exact h.owns
theorem RangeAt.grown {w w' : World} {b r n : Nat} {m : List (Int × Int)} {left : Int → Bool} {cnt : Nat} {row : Option Nat} (h : RangeAt w b r n m left cnt) (k : w.grownBy w' row) (hb : some b ≠ row) (hr : some r ≠ row) : RangeAt w' b r n m left cnt := by
  obtain ⟨lf, h1, h2⟩ := h
  exact ⟨lf, h1, h2.kept k hb hr⟩
theorem RangeAt.below {w w' : World} {b r n : Nat} {m : List (Int × Int)} {left : Int → Bool} {cnt : Nat} (h : RangeAt w b r n m left cnt) (k : Below w.heap.size w w') : RangeAt w' b r n m left cnt :=
  h.grown (row := none) ⟨k.os, k.tape, k.output, k.size, fun i hi _ => k.block i hi⟩ (by simp) (by simp)
theorem MapAt.range {w : World} {b n : Nat} {m : List (Int × Int)} (h : MapAt w b n m) :
    ∃ w', (Instr.range 40 (.map (some b))).run Try.prog w = .ok (.pointer (some ⟨w.heap.size, 0, none⟩)) w' ∧ RangeAt w' b w.heap.size n m (fun x => m.any fun p => decide (p.1 = x)) m.length ∧ Below w.heap.size w w' := by
  obtain ⟨w', h1, h2, h3, h4⟩ := World.ownsMap.range h keyed16 mapT
  rw [dm_size] at h2
  exact ⟨w', h1, ⟨_, fun x => dm_has m x, h2⟩, ⟨h3.os, h3.tape, h3.output, h3.size, fun i hi => h3.block i hi (by simp)⟩⟩
/-- the step -/
theorem RangeAt.next {w : World} {b r n : Nat} {m : List (Int × Int)} {left : Int → Bool} {cnt : Nat} (h : RangeAt w b r n m left cnt) (ty : TypeId) :
    ((∀ x, left x = false) ∧ (Instr.next (.pointer (some ⟨r, 0, none⟩)) false ty).run Try.prog w = .ok (.tuple #[.bool false]) w) ∨
    ∃ x c w' cnt', (0 ≤ x ∧ x ≤ 65535) ∧ (0 ≤ c ∧ c ≤ 255) ∧ left x = true ∧ (x, c) ∈ m ∧ (Instr.next (.pointer (some ⟨r, 0, none⟩)) false ty).run Try.prog w = .ok (.tuple #[.bool true, .int .u16 x, .int .u8 c]) w' ∧
      RangeAt w' b r n m (fun z => left z && !decide (z = x)) cnt' ∧ cnt' < cnt ∧ w.grownBy w' (some r) ∧ (Instr.entry (.pointer (some ⟨r, 0, none⟩))).run Try.prog w' = .ok (.tuple #[.int .u16 x, .int .u8 c]) w' := by
  obtain ⟨lf, hlf, h⟩ := h
  rcases h.next keyed16 ty with ⟨-, h2, h3⟩ | ⟨key, v, kl, y, w', cnt', hkey, hlk, hv, hat, hrun, hrg, hlt, hgr, hsz, hen⟩
  · exact .inl ⟨fun x => by rw [← hlf]; exact h2 _, h3⟩
  · obtain ⟨x, rfl, rfl, hwx⟩ := Maps.keyOf_int_inv Try.underlying23 hkey
    obtain ⟨c, rfl, rfl, hwc⟩ := plainElem_int_inv Try.underlying5 hv
    exact .inr ⟨x, c, w', cnt', of_wf16 hwx, of_wf8 hwc, by rw [← hlf]; exact hlk, dm_mem hat, hrun, ⟨_, fun z => by show (lf _ && !(Lit.int .u16 z).sameKey (.int .u16 x)) = (left z && !decide (z = x)); rw [hlf, same16], hrg⟩, hlt, hgr, hen⟩
/- at the operations -/
section
variable {P : Program} {ρ : Operand → Value} {o : Oper} {x y z : Operand} {V W R U : Value}
theorem xLookup {t : TypeId} {w : World} {c : Bool} (hl : (Instr.lookup t V W c).run P w = .ok R w) (ho : o.op = .lookup t x y c := by exact rfl) (hx : ρ x = V := by kernel_rfl) (hy : ρ y = W := by kernel_rfl) : (execOp ρ o).run P w = .ok (.value R) w := by
  unfold execOp
  simp only [ho, hx, hy, Sem.run_bind, Sem.run_pure, hl, Result.andThen_ok]
theorem xUpdate {t : TypeId} {w w' : World} (hl : (Instr.mapUpdate t V W U).run P w = .ok () w') (ho : o.op = .mapUpdate t x y z := by exact rfl) (hx : ρ x = V := by kernel_rfl) (hy : ρ y = W := by kernel_rfl) (hz : ρ z = U := by kernel_rfl) : (execOp ρ o).run P w = .ok .skip w' := by
  unfold execOp
  simp only [ho, hx, hy, hz, Sem.run_bind, Sem.run_pure, hl, Result.andThen_ok]
theorem xRange {t : TypeId} {w w' : World} (hl : (Instr.range t V).run P w = .ok R w') (ho : o.op = .range t x := by exact rfl) (hx : ρ x = V := by kernel_rfl) : (execOp ρ o).run P w = .ok (.value R) w' := by
  unfold execOp
  simp only [ho, hx, Sem.run_bind, Sem.run_pure, hl, Result.andThen_ok]
theorem xNext {w w' : World} (hl : (Instr.next V false o.type).run P w = .ok R w') (ho : o.op = .next x false := by exact rfl) (hx : ρ x = V := by kernel_rfl) : (execOp ρ o).run P w = .ok (.value R) w' := by
  unfold execOp
  simp only [ho, hx, Sem.run_bind, Sem.run_pure, hl, Result.andThen_ok]
theorem xEntry {w : World} (hl : (Instr.entry V).run P w = .ok R w) (ho : o.op = .entry x := by exact rfl) (hx : ρ x = V := by kernel_rfl) : (execOp ρ o).run P w = .ok (.value R) w := by
  unfold execOp
  simp only [ho, hx, Sem.run_bind, Sem.run_pure, hl, Result.andThen_ok]
theorem xMakeMap {t : TypeId} {w w' : World} (hl : (Instr.makeMap t none).run P w = .ok R w') (ho : o.op = .makeMap t none := by exact rfl) : (execOp ρ o).run P w = .ok (.value R) w' := by
  unfold execOp
  simp only [ho, Option.map_none, Sem.run_bind, Sem.run_pure, hl, Result.andThen_ok]
theorem xDelete {t u : TypeId} {w w' : World} (hl : (Builtin.delete_ #[t, u] o.type #[V, W]).run P w = .ok R w') (ho : o.op = .call { callee := .builtin .delete, args := #[x, y], argTypes := #[t, u] } := by exact rfl) (hx : ρ x = V := by kernel_rfl) (hy : ρ y = W := by kernel_rfl) : (execOp ρ o).run P w = .ok (.value R) w' := by
  unfold execOp
  simp [ho, hx, hy, resolve, invoke, builtin, Sem.run_bind, Sem.run_pure, hl, Result.andThen_ok]
end
/-- one of the call's own blocks that isn't among those at hand has turned, or new ones were made -/
theorem Many.grown {w0 w w' : World} {L : List Nat} {rs : List RowK} {b : Nat} (h : Many w0 L rs w) (k : w.grownBy w' (some b)) (hb : w0.heap.size ≤ b) (hn : ∀ (i : Nat) (r : RowK), rs[i]? = some r → r.b ≠ b) : Many w0 L rs w' :=
  ⟨fun i r hr => by obtain ⟨full, h1, h2⟩ := h.rows i r hr; exact ⟨full, h1.of (k.block r.b h1.lt (by simpa using hn i r hr)), h2⟩, h.dis, h.own,
    ⟨k.os.trans h.touch.os, k.tape.trans h.touch.tape, k.output.trans h.touch.output, Nat.le_trans h.touch.size k.size, fun c hc hL => (k.block c (Nat.lt_of_lt_of_le hc h.touch.size) (by simp; omega)).trans (h.touch.block c hc hL)⟩⟩
theorem nil_ne {b : Nat} : ∀ (i : Nat) (r : RowK), ([] : List RowK)[i]? = some r → r.b ≠ b := fun i r h => by simp at h
end Go.Proofs.Ytahnejcfengljaa
