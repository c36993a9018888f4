/- Layer 8 (decode): the walk of the law of bytes that lack. -/
import Derived.Test.YtlmeekaemhghgaaDoorDecodeSums
import Derived.Maps.AppendAt
import Derived.Laws.AppendOwnNone
import Derived.Deep.DeepCutAuto
namespace Go.Proofs.YtlmeekaemhghgaaDoor
open Go.RowKit
set_option linter.unusedVariables false
set_option linter.unusedSimpArgs false

theorem own_bytes {w : World} {b n c : Nat} {Av : Option Addr} {l : List Int} (h : w.ownsRow b 5 1 (.slice Av n c) n (bvs l)) : BytesIn w w.heap.size Av l := by
  rcases h.2 with ⟨e1, e2⟩ | ⟨g, cap, cur, e1, -, hh, -⟩
  · have h1 := h.1
    rw [bvs_length, e2] at h1
    obtain rfl : l = [] := List.eq_nil_of_length_eq_zero (by omega)
    exact BytesIn.nil _ _ _
  · injection e1 with e3 e4 e5
    subst e3
    intro j x hx
    refine ⟨_, rfl, (Array.getElem?_eq_some_iff.1 hh).1, h.cells (g := g) rfl j _ ?_⟩
    unfold bvs
    rw [List.getElem?_map, hx]
    rfl
theorem grown_row0 {W w1 : World} {g : Nat} {t : TypeId} {cs : Array Value} (hr : Row W g t cs) (hg : W.grownBy w1 (Value.slice none 0 0).ownBlock) : Row w1 g t cs := (hg.block g hr.lt (fun e => by simp [Value.ownBlock] at e)).trans hr
theorem grown_row1 {wr w7 : World} {g : Nat} {t : TypeId} {cs : Array Value} {o : Obj} (hr : Row wr g t cs) (hg : (wr.alloc o).grownBy w7 (Value.slice (some ⟨wr.heap.size, 0, none⟩) 1 1).ownBlock) : Row w7 g t cs :=
  (hg.block g (by have := hr.lt; simp; omega) (fun e => by simp [Value.ownBlock] at e; have := hr.lt; omega)).trans (hr.alloc o)
theorem grown1_below {w wr w7 : World} {o : Obj} (h : Below w.heap.size w wr) (hg : (wr.alloc o).grownBy w7 (Value.slice (some ⟨wr.heap.size, 0, none⟩) 1 1).ownBlock) : Below w.heap.size w w7 :=
  (h.alloc h.size o).grown hg (by have := h.size; simp; omega) (fun k e => by simp [Value.ownBlock] at e; have := h.size; omega)
theorem own_form {W : World} {b : Nat} {e : TypeId} {s : Nat} {v : Value} {n : Nat} {xs : List Value} (h : W.ownsRow b e s v n xs) (hn : n ≠ 0) : ∃ A c, v = .slice A n c := by
  rcases h.2 with ⟨-, e2⟩ | ⟨g, c, cur, e1, -⟩
  · exact absurd e2 hn
  · exact ⟨_, _, e1⟩
/-- what the law asks of an instruction that is whole -/
theorem short_math (xs ys : List Int) (ho : okM xs = true) :
    (opOf (xs.take (lenOf xs) ++ ys) = opOf xs ∧ okM (xs.take (lenOf xs) ++ ys) = true ∧ nextO (xs.take (lenOf xs) ++ ys) = opOf xs) ∧
    (∀ k, k < lenOf xs → okM (xs.take k) = false ∧ nextO (xs.take k) = zeroOp) ∧ (isPre (gb xs 0) = false → (opOf xs).skip = 0) ∧
    (isPre (gb xs 0) = true → okM (221 :: (xs.take (lenOf xs) ++ ys)) = true ∧ nextO (221 :: (xs.take (lenOf xs) ++ ys)) = { opOf xs with len := (opOf xs).len + 1, skip := (opOf xs).skip + 1 }) := by
  have hle := ok_len ho
  have hps := lead_lt_len xs
  have e := opOf_more xs ys hle
  have el : lenOf (xs.take (lenOf xs) ++ ys) = lenOf xs := by unfold lenOf at e ⊢; rw [e]
  have ek : okM (xs.take (lenOf xs) ++ ys) = true := by
    unfold okM
    rw [el]
    simp
    omega
  refine ⟨⟨e, ek, by rw [(okM_yes ek).2, e]⟩, fun k hk => ?_, opOf_noskip xs, fun hp => ?_⟩
  · have := okM_cut xs k hk (by omega)
    exact ⟨this, (okM_no this).2⟩
  · have hg : gb (xs.take (lenOf xs) ++ ys) 0 = gb xs 0 := by rw [gb_append_left _ _ _ (by rw [List.length_take]; omega), gb_take _ _ _ (by omega)]
    have e2 := opOf_skip 221 (xs.take (lenOf xs) ++ ys) (by rw [hg]; exact hp)
    rw [e] at e2
    have e3 := lenOf_eq (221 :: (xs.take (lenOf xs) ++ ys))
    rw [e2] at e3
    have e4 := lenOf_eq xs
    have e5 : lenOf (221 :: (xs.take (lenOf xs) ++ ys)) = lenOf xs + 1 := by simp only at e3; omega
    have e6 : okM (221 :: (xs.take (lenOf xs) ++ ys)) = true := by
      unfold okM
      rw [e5]
      simp
      omega
    exact ⟨e6, by rw [(okM_yes e6).2, e2]⟩
end Go.Proofs.YtlmeekaemhghgaaDoor
