/- Layer 8 (decode): Bytes: contract. -/
import Derived.Test.YtlmeekaemhghgaaDoorDecodeBytes
import Derived.Test.YtlmeekaemhghgaaDoorDecodeRows
import Derived.Maps.AppendAt
import Derived.Deep.RegionHeld3
namespace Go.Proofs.YtlmeekaemhghgaaDoor
open Go.RowKit
set_option linter.unusedVariables false
set_option linter.unusedSimpArgs false

/-- the bytes behind the prefixes, without the number's -/
def midL (p c d : Int) : List Int := if aheadM p then [d, c] else if nearM p c then [c, d] else [c]
def immL (n : Nat) (i : Int) : List Int := [i % 256, i / 256].take n
def bytesL (p c d i : Int) : List Int := if p < 0 ∨ 6 < p then [] else preL p ++ midL p c d ++ immL (sizeM p c).toNat i
theorem cells_list_new' (w : World) (cs : List Value) (t : TypeId) : ∀ j u, cs[j]? = some u → (w.alloc (.cells cs.toArray t)).cell? ((⟨w.heap.size, 0, none⟩ : Addr).add j) = some u := by
  intro j u hj
  have h := (Row.new w t cs.toArray).cell j
  have e : (⟨w.heap.size, 0, none⟩ : Addr).add j = ⟨w.heap.size, j, none⟩ := by
    unfold Addr.add
    split
    · rename_i h0; rw [h0]
    · simp
  rw [e, h]
  simpa using hj
theorem cells_take {w : World} {g : Nat} {t : TypeId} {cs : List Value} (h : Row w g t cs.toArray) (m : Nat) : ∀ j u, (cs.take m)[j]? = some u → w.cell? ((⟨g, 0, none⟩ : Addr).add j) = some u := by
  intro j u hj
  have h1 := h.cell j
  have e : (⟨g, 0, none⟩ : Addr).add j = ⟨g, j, none⟩ := by
    unfold Addr.add
    split
    · rename_i h0; rw [h0]
    · simp
  rw [List.getElem?_take] at hj
  split at hj
  · rw [e, h1]
    simpa using hj
  · cases hj
theorem own_below {w w' : World} {b : Nat} {e : TypeId} {s : Nat} {v : Value} {n : Nat} {xs : List Value} (h : w.ownsRow b e s v n xs) (k : Below w.heap.size w w') : w'.ownsRow b e s v n xs := by
  refine h.kept (row := none) ⟨k.os, k.tape, k.output, k.size, fun i hi _ => k.block i hi⟩ ?_
  cases e2 : v.ownBlock with
  | none => exact .inl rfl
  | some g => exact .inr (by simp)
theorem u8_info : (Tryd.prog.info? 5).map (fun i => (i.zero, i.size, i.bytes)) = some (some (.int .u8 0), 1, 1) := by kernel_rfl
theorem bvs_one (l : List Int) : ∀ u ∈ bvs l, u.oneCell' = true := by
  intro u hu
  unfold bvs at hu
  rw [List.mem_map] at hu
  obtain ⟨x, -, rfl⟩ := hu
  rfl
theorem bvs_append (l m : List Int) : bvs l ++ bvs m = bvs (l ++ m) := by simp [bvs]
theorem bvs_length (l : List Int) : (bvs l).length = l.length := by simp [bvs]
theorem own_mono {w : World} {b b' : Nat} {e : TypeId} {s : Nat} {v : Value} {n : Nat} {xs : List Value} (h : w.ownsRow b e s v n xs) (hb : b' ≤ b) : w.ownsRow b' e s v n xs := by
  refine ⟨h.1, ?_⟩
  rcases h.2 with e | ⟨g, cap, cur, h1, h2, h3⟩
  · exact .inl e
  · exact .inr ⟨g, cap, cur, h1, by omega, h3⟩
/-- an append onto a row of the call's own: what else the walk owes -/
theorem grown_below {w W w1 : World} {base : Nat} {e : TypeId} {size : Nat} {v : Value} {n : Nat} {xs : List Value} (h : Below w.heap.size w W) (hg : W.grownBy w1 v.ownBlock) (ho : W.ownsRow base e size v n xs) (hb : w.heap.size ≤ base) : Below w.heap.size w w1 :=
  h.grown hg h.size (fun k e => Nat.le_trans hb (ho.lt k e).1)
theorem grown_row {W w1 : World} {base : Nat} {e : TypeId} {size : Nat} {v : Value} {n : Nat} {xs : List Value} {g : Nat} {t : TypeId} {cs : Array Value} (hr : Row W g t cs) (hg : W.grownBy w1 v.ownBlock) (ho : W.ownsRow base e size v n xs) (hb : g < base) : Row w1 g t cs :=
  (hg.block g hr.lt (fun e => by have := (ho.lt g e.symm).1; omega)).trans hr
theorem sizeM_nat (p c : Int) : ∃ m : Nat, m ≤ 2 ∧ sizeM p c = (m : Int) := by
  have h := sizeM_le p c
  exact ⟨(sizeM p c).toNat, by omega, by omega⟩
/-- a slice of bytes of the call's own -/
def OwnBytes (w' : World) (base : Nat) (v : Value) (l : List Int) : Prop := w'.ownsRow base 5 1 v l.length (bvs l)
end Go.Proofs.YtlmeekaemhghgaaDoor
