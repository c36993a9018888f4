/- Layer 8 (decode): the document's examples, and the walk of the law of codes. -/
import Derived.Test.YtlmeekaemhghgaaDoorDecodeAll
import Derived.Test.YtlmeekaemhghgaaDoorDecodeMake
import Derived.ChangeKeysEq
namespace Go.Proofs.YtlmeekaemhghgaaDoor
open Go.RowKit
set_option linter.unusedVariables false
set_option linter.unusedSimpArgs false

/-- bytes that a call lays in a new block -/
theorem bytes_new (w : World) (l : List Int) (t : TypeId) : BytesIn (w.alloc (.cells (bvs l).toArray t)) (w.heap.size + 1) (some ⟨w.heap.size, 0, none⟩) l := fun j x hx =>
  ⟨_, rfl, by show w.heap.size < w.heap.size + 1; omega, cells_list_new' w (bvs l) t j _ (by unfold bvs; rw [List.getElem?_map, hx]; rfl)⟩
theorem b8_list {l : List Int} (h : l.all (fun x => decide (0 ≤ x) && decide (x ≤ 255)) = true) : Bytes8 l := fun x hx => by
  have := List.all_eq_true.1 h x hx
  simp only [Bool.and_eq_true, decide_eq_true_eq] at this
  exact this
theorem ex1 : opB (nextO [221, 54, 5, 7]) (okM [221, 54, 5, 7]) = .tuple #[opV 3 54 5 7 4 0, .bool true] := rfl
theorem ex2 : opB (nextO [221, 253, 33, 52, 18]) (okM [221, 253, 33, 52, 18]) = .tuple #[opV 4 33 0 4660 5 1, .bool true] := rfl
theorem ex3 : Stops [0, 203] 1 := by
  refine ⟨fun j hj => ?_, rfl⟩
  obtain rfl : j = 0 := by omega
  rfl
theorem ex4 : bytesL 3 54 5 7 = [221, 54, 5, 7] := rfl
theorem nex1 (W : World) (b : Nat) (hb : b = W.heap.size) : Calls Tryd.prog 42 #[.slice (some ⟨b, 0, none⟩) 4 4] (W.alloc (.cells #[.int .u8 221, .int .u8 54, .int .u8 5, .int .u8 7] 5)) fun e w' =>
    e = .returned (.tuple #[opV 3 54 5 7 4 0, .bool true]) ∧ Below (W.alloc (.cells #[.int .u8 221, .int .u8 54, .int .u8 5, .int .u8 7] 5)).heap.size (W.alloc (.cells #[.int .u8 221, .int .u8 54, .int .u8 5, .int .u8 7] 5)) w' := by
  subst hb
  have h := next_any (some ⟨W.heap.size, 0, none⟩) 4 [221, 54, 5, 7] (by decide) (b8_list rfl) (W.alloc (.cells (bvs [221, 54, 5, 7]).toArray 5)) ((bytes_new W _ _).more (by simp))
  rw [ex1] at h
  exact h
theorem nex2 (W : World) (b : Nat) (hb : b = W.heap.size) : Calls Tryd.prog 42 #[.slice (some ⟨b, 0, none⟩) 5 5] (W.alloc (.cells #[.int .u8 221, .int .u8 253, .int .u8 33, .int .u8 52, .int .u8 18] 5)) fun e w' =>
    e = .returned (.tuple #[opV 4 33 0 4660 5 1, .bool true]) ∧ Below (W.alloc (.cells #[.int .u8 221, .int .u8 253, .int .u8 33, .int .u8 52, .int .u8 18] 5)).heap.size (W.alloc (.cells #[.int .u8 221, .int .u8 253, .int .u8 33, .int .u8 52, .int .u8 18] 5)) w' := by
  subst hb
  have h := next_any (some ⟨W.heap.size, 0, none⟩) 5 [221, 253, 33, 52, 18] (by decide) (b8_list rfl) (W.alloc (.cells (bvs [221, 253, 33, 52, 18]).toArray 5)) ((bytes_new W _ _).more (by simp))
  rw [ex2] at h
  exact h
theorem nex3 (W : World) (b : Nat) (hb : b = W.heap.size) : Calls Tryd.prog 28 #[.slice (some ⟨b, 0, none⟩) 2 2] (W.alloc (.cells #[.int .u8 0, .int .u8 203] 5)) fun e w' =>
    ∃ A c, e = .returned (.tuple #[.slice A 1 c, .int .i64 1]) ∧ Below (W.alloc (.cells #[.int .u8 0, .int .u8 203] 5)).heap.size (W.alloc (.cells #[.int .u8 0, .int .u8 203] 5)) w' := by
  subst hb
  have h := all_any (some ⟨W.heap.size, 0, none⟩) 2 [0, 203] (by decide) (by decide) (b8_list rfl) (W.alloc (.cells (bvs [0, 203]).toArray 5)) ((bytes_new W _ _).more (by simp))
  refine Calls.mono h ?_
  rintro e w' ⟨k, v, hst, rfl, hown, hb⟩
  obtain rfl := hst.same ex3
  rcases hown.2 with ⟨_, h0⟩ | ⟨g, cap, cur, rfl, -⟩
  · cases h0
  · exact ⟨_, _, rfl, hb⟩
theorem nex5 (W : World) : Calls Tryd.prog 50 #[.int .i64 2, .int .u8 67] W fun e w' => e = .returned (.int .i64 2) ∧ Below W.heap.size W w' := by
  have h := size_any 2 67 ⟨by decide, by decide⟩ W
  rw [show sizeM 2 67 = 2 from rfl] at h
  exact h
theorem nex6 (W : World) : Calls Tryd.prog 32 #[.int .i64 3, .int .u8 126] W fun e w' => e = .returned (.bool true) ∧ W = w' := by
  have h := dnear_any 3 126 ⟨by decide, by decide⟩ W
  rw [show nearM 3 126 = true from rfl] at h
  exact h
theorem nex7 (W : World) : Calls Tryd.prog 33 #[.int .u8 94] W fun e w' => e = .returned (.tuple #[.int .i64 1, .int .i64 3, .int .i64 6, .int .i64 1, .int .i64 1]) ∧ W = w' := by
  have h := fields_any 94 ⟨by decide, by decide⟩ W
  rw [show five 94 = .tuple #[.int .i64 1, .int .i64 3, .int .i64 6, .int .i64 1, .int .i64 1] from rfl] at h
  exact h
end Go.Proofs.YtlmeekaemhghgaaDoor
