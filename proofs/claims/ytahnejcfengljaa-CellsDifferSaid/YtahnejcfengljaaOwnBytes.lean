/- Rows of bytes of the call's own: as slices, grown by append. Nothing of the program but the numbers of its types. -/
import Derived.Test.YtahnejcfengljaaOwnHelp
import Derived.Test.YtahnejcfengljaaMem
import Derived.Test.YtahnejcfengljaaChecked
import Derived.KernelRfl
import Derived.Laws.AppendOwn
import Derived.Laws.AppendOwnNone
import Derived.OwnWalk
namespace Go.Proofs.Ytahnejcfengljaa
open Go.RowKit
set_option linter.unusedVariables false
set_option linter.unusedSimpArgs false

/-- bytes as values -/
def bvs (l : List Int) : List Value := l.map fun x => .int .u8 x
theorem u8_info : (Try.prog.info? 5).map (fun i => (i.zero, i.size, i.bytes)) = some (some (.int .u8 0), 1, 1) := by kernel_rfl
theorem bvs_one (l : List Int) : ∀ u ∈ bvs l, u.oneCell' = true := by
  intro u hu
  unfold bvs at hu
  rw [List.mem_map] at hu
  obtain ⟨x, -, rfl⟩ := hu
  rfl
theorem bvs_append (l m : List Int) : bvs l ++ bvs m = bvs (l ++ m) := by simp [bvs]
theorem bvs_length (l : List Int) : (bvs l).length = l.length := by simp [bvs]
theorem own_bytes {w : World} {b n c : Nat} {Av : Option Addr} {l : List Int} (h : w.ownsRow b 5 1 (.slice Av n c) n (bvs l)) : BytesIn w w.heap.size Av l := by
  rcases h.2 with ⟨e1, e2⟩ | ⟨g, cap, cur, e1, -, hh, -⟩
  · have h1 := h.1
    rw [bvs_length, e2] at h1
    obtain rfl : l = [] := List.eq_nil_of_length_eq_zero (by omega)
    exact BytesIn.nil _ _ _
  · injection e1 with e3 e4 e5
    subst e3
    intro j x hx
    refine ⟨_, rfl, (Array.getElem?_eq_some_iff.1 hh).1, h.cells (g := g) rfl j _ ?_⟩
    unfold bvs
    rw [List.getElem?_map, hx]
    rfl
theorem own_form {W : World} {b : Nat} {e : TypeId} {s : Nat} {v : Value} {n : Nat} {xs : List Value} (h : W.ownsRow b e s v n xs) (hn : n ≠ 0) : ∃ A c, v = .slice A n c := by
  rcases h.2 with ⟨-, e2⟩ | ⟨g, c, cur, e1, -⟩
  · exact absurd e2 hn
  · exact ⟨_, _, e1⟩
theorem wpList_append_bytes {ops : Array Oper} {rest : List Oper} {o : Oper} {a : Act} {w : World} {Q : Exit → Act → World → Prop} (hgd : o.guard = none) (s x : Operand)
    (ho : o.op = .call { callee := .builtin .append, args := #[s, x], argTypes := #[32, 32] })
    (w0 : World) (base B : Nat) (hB : Below w0.heap.size w0 w) (hb0 : w0.heap.size ≤ base) (hbase : base ≤ w.heap.size)
    (v : Value) (n : Nat) (l : List Int) (hs : a.eval s = v) (hown : w.ownsRow base 5 1 v n (bvs l))
    (A : Option Addr) (c : Nat) (ys : List Int) (hx : a.eval x = .slice A ys.length c) (hy : BytesIn w B A ys) (hn : A = none → c = 0) (hmax : n + ys.length ≤ 140737488355328)
    (h : ∀ v' w', w'.ownsRow base 5 1 v' (n + ys.length) (bvs (l ++ ys)) → Below w0.heap.size w0 w' → base ≤ w'.heap.size → wpList Try.prog ops Q rest (a.put o.dst v') w') :
    wpList Try.prog ops Q (o :: rest) a w := by
  obtain ⟨i0, hi0, hz0, hz1, hz2⟩ := info_parts u8_info
  rcases A with _ | p
  · obtain rfl := hn rfl
    have hy0 : ys = [] := by
      cases ys with
      | nil => rfl
      | cons y ys' =>
        obtain ⟨ad, e, -⟩ := hy 0 y rfl
        cases e
    subst hy0
    refine wpList_append_own_none hgd s x _ ho base 5 i0 1 Try.underlying32 hi0 v n (bvs l) hs hown hx ?_
    exact h v w (by simpa using hown) hB hbase
  · refine wpList_append_own_at _ hgd s x _ ho base 5 i0 _ 1 1 Try.underlying32 hi0 hz0 hz1 hz2 rfl (by omega) v n (bvs l) hs hown p ys.length c (bvs ys) hx (by rw [bvs_length]; omega) (fun j u hj => ?_) (bvs_one ys) (by simp only [maxLen]; omega) (by omega) hbase ?_
    · unfold bvs at hj
      rw [List.getElem?_map] at hj
      obtain ⟨y, hy1, hy2⟩ := Option.map_eq_some_iff.1 hj
      obtain ⟨ad, e1, -, e2⟩ := hy j y hy1
      cases e1
      rw [e2, ← hy2]
    · intro v' w' own' hg _ _
      rw [bvs_append] at own'
      exact h v' w' own' (grown_below hB hg hown hb0) (Nat.le_trans hbase hg.size)
/-- a row of the call's own as a slice -/
theorem own_slice {W : World} {b n : Nat} {v : Value} {l : List Int} (h : W.ownsRow b 5 1 v n (bvs l)) : ∃ A c, v = .slice A n c ∧ n ≤ c ∧ BytesIn W W.heap.size A l ∧ (A = none → c = 0) := by
  rcases h.2 with ⟨e1, e2⟩ | ⟨g, c, cur, e1, -, -, hle, -⟩
  · subst e1 e2
    exact ⟨none, 0, rfl, Nat.le_refl _, own_bytes h, fun _ => rfl⟩
  · subst e1
    exact ⟨_, c, rfl, hle, own_bytes h, fun e => by cases e⟩
/-- a new block of one byte -/
theorem byte_new (w : World) (b : Int) (t : TypeId) : BytesIn (w.alloc (.cells #[.int .u8 b] t)) (w.heap.size + 1) (some ⟨w.heap.size, 0, none⟩) [b] := fun j x hx => by
  obtain ⟨rfl, rfl⟩ : j = 0 ∧ x = b := by
    cases j with
    | zero => simp at hx; exact ⟨rfl, hx.symm⟩
    | succ j => simp at hx
  exact ⟨_, rfl, by simp, cells_list_new' w [.int .u8 x] t 0 _ rfl⟩
end Go.Proofs.Ytahnejcfengljaa
