/- For walks over XMany: operations that turn the world, calls whose answer is not told ahead, append of bytes, told operations, rows of bytes. Nothing of the program but the numbers of its types. -/
import Derived.Test.YtahnejcfengljaaManyMore
import Derived.Test.YtahnejcfengljaaOwnBytes
namespace Go.Proofs.Ytahnejcfengljaa
open Go.RowKit
set_option linter.unusedVariables false
set_option maxRecDepth 20000

section
variable {ops : Array Oper} {Q : Exit → Act → World → Prop} {base : List Value} {rest : List Oper} {l : Slots} {w : World} {o : Oper}
/-- append of bytes to a row of the call's own -/
theorem qA {o : Oper} (s x : Operand) (w0 : World) (bs B : Nat) (v : Value) (n : Nat) (got : List Int) (A : Option Addr) (c : Nat) (ys : List Int) (hB : Below w0.heap.size w0 w) (hb0 : w0.heap.size ≤ bs) (hbs : bs ≤ w.heap.size)
    (hown : w.ownsRow bs 5 1 v n (bvs got)) (hy : BytesIn w B A ys) (hn : A = none → c = 0) (hmax : n + ys.length ≤ 140737488355328)
    (h : ∀ v' w', w'.ownsRow bs 5 1 v' (n + ys.length) (bvs (got ++ ys)) → Below w0.heap.size w0 w' → bs ≤ w'.heap.size → WO Try.prog ops Q base rest (putO o.dst v' l) w')
    (ho : o.op = .call { callee := .builtin .append, args := #[s, x], argTypes := #[32, 32] } := by exact rfl) (hg : o.guard = none := by exact rfl) (hs : evO base l s = v := by kernel_rfl) (hx : evO base l x = .slice A ys.length c := by kernel_rfl) (hd : dstO o.dst base.length = true := by kernel_rfl) : WO Try.prog ops Q base (o :: rest) l w :=
  ⟨fun hi => ⟨wpList_append_bytes hg s x ho w0 bs B hB hb0 hbs v n got (by rw [evO_eq hi]; exact hs) hown A c ys (by rw [evO_eq hi]; exact hx) hy hn hmax fun v' w' h1 h2 h3 => by rw [put_actO]; exact ((h v' w' h1 h2 h3).h (inO_put hd hi)).h⟩⟩
end
section
variable {P : Program} {ops : Array Oper} {Q : Exit → Act → World → Prop} {base : List Value} {rest : List Oper} {l : Slots} {w : World} {o : Oper}
theorem list_turn {rest : List Oper} {o : Oper} {a : Act} {w w' : World} (v : Value) (hw : Region.wanted o (yielded ops a.tmps) = true) (he : (execOp a.eval o).run P w = .ok (.value v) w')
    (h : WL P ops Q rest (a.put o.dst v) w') : WL P ops Q (o :: rest) a w :=
  ⟨wpList_step fun K hK => by
    rw [if_pos hw]
    unfold Oper.wp
    rw [he, Oper.upon_value]
    exact hK _ _ h.h⟩
/-- an operation that turns the world, and yields a value -/
theorem wM {V : Value} {w' : World} (he : (execOp (evO base l) o).run P w = .ok (.value V) w') (h : WO P ops Q base rest (putO o.dst V l) w') (hg : wantO ops base.length base l o = some true := by kernel_rfl) (hd : dstO o.dst base.length = true := by kernel_rfl) : WO P ops Q base (o :: rest) l w :=
  ⟨fun hi => list_turn V (wantO_sound hg hi) (by rw [evO_eq hi]; exact he) (by rw [put_actO]; exact h.h (inO_put hd hi))⟩
/-- .. and yields nothing -/
theorem wD {w' : World} (he : (execOp (evO base l) o).run P w = .ok .skip w') (h : WO P ops Q base rest l w') (hd : o.dst = none := by exact rfl) (hg : wantO ops base.length base l o = some true := by kernel_rfl) : WO P ops Q base (o :: rest) l w :=
  ⟨fun hi => list_do hd (wantO_sound hg hi) (by rw [evO_eq hi]; exact he) (h.h hi)⟩
/-- a call whose answer is not told ahead -/
theorem kX {g : FuncId} {args : Array Value} {R : Ending → World → Prop} (hc : Calls P g args w R) (h : ∀ e w', R e w' → ∃ V, e = .returned V ∧ WO P ops Q base rest (putO o.dst V l) w')
    (hg : wantO ops base.length base l o = some true := by kernel_rfl) (he : (execOp (evO base l) o).run P w = .ok (.enter g args) w := by kernel_rfl) (hd : dstO o.dst base.length = true := by kernel_rfl) : WO P ops Q base (o :: rest) l w :=
  woCall hg he hd hc fun e w' hR => by
    obtain ⟨V, rfl, hV⟩ := h e w' hR
    exact hV
end
theorem Many.byte {w0 w : World} {L : List Nat} {b : Nat} {t : TypeId} {x : Int} {rs : List RowK} (h : Many w0 L rs w) (i : Nat) (e : rs[i]? = some ⟨b, t, [some (.int .u8 x)]⟩) : BytesIn w w.heap.size (some ⟨b, 0, none⟩) [x] := by
  obtain ⟨full, h1, h2⟩ := h.rows i _ e
  intro j y hy
  obtain ⟨rfl, rfl⟩ : j = 0 ∧ y = x := by
    cases j with
    | zero => simp at hy; exact ⟨rfl, hy.symm⟩
    | succ j => simp at hy
  refine ⟨_, rfl, h1.lt, ?_⟩
  show w.cell? ⟨b, 0, none⟩ = _
  rw [h1.cell 0]
  exact h2.at_ 0 _ rfl
section
variable {P : Program} {ops : Array Oper} {Q : Exit → Act → World → Prop} {base : List Value} {rest : List Oper} {l : Slots} {w : World} {o : Oper}
/-- an operation whose value is told, by what the slots hold -/
theorem wA1 (d : Nat) (V : Value) (he : (execOp (actO base l).eval o).run P w = .ok (.value V) w) (h : WO P ops Q base rest ((d, V) :: l) w) (hd : o.dst = some d := by exact rfl) (hg : wantO ops base.length base l o = some true := by kernel_rfl) (hn : Nat.blt d base.length = true := by kernel_rfl) : WO P ops Q base (o :: rest) l w :=
  ⟨fun hi => (w1 d V (by rw [← evO_eq hi]; exact he) h hd hg hn).h hi⟩
end
theorem one_ne {a b : Nat} {t : TypeId} {cs : Cells} (h : a ≠ b) : ∀ (i : Nat) (r : RowK), ([⟨a, t, cs⟩] : List RowK)[i]? = some r → r.b ≠ b := fun i r hi => by
  cases i with
  | zero => cases hi; exact h
  | succ i => cases hi
theorem three_ne {a b c x : Nat} {t u v : TypeId} {cs ds es : Cells} (h : a ≠ x) (k : b ≠ x) (m : c ≠ x) : ∀ (i : Nat) (r : RowK), ([⟨a, t, cs⟩, ⟨b, u, ds⟩, ⟨c, v, es⟩] : List RowK)[i]? = some r → r.b ≠ x := fun i r hi => by
  match i with
  | 0 => cases hi; exact h
  | 1 => cases hi; exact k
  | 2 => cases hi; exact m
  | i + 3 => cases hi
/-- a row of bytes -/
theorem plane_row {w : World} {b : Nat} {t : TypeId} {xs : List Int} (h : Row w b t (bvs xs).toArray) : BytesIn w w.heap.size (some ⟨b, 0, none⟩) xs := fun j x hx => by
  refine ⟨_, rfl, h.lt, ?_⟩
  rw [show (⟨b, 0, none⟩ : Addr).add j = ⟨b, j, none⟩ by simp [Addr.add]; omega, h.cell j]
  simp [bvs, hx]
end Go.Proofs.Ytahnejcfengljaa
