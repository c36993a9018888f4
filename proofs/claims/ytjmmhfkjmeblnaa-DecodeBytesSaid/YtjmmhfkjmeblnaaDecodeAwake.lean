/- Layer 8 (decode): the document's examples, and the walk of the law of codes. -/
import Derived.Test.YtjmmhfkjmeblnaaDecodeAll
import Derived.Test.YtjmmhfkjmeblnaaDecodeMake
import Derived.ChangeKeysEq
namespace Go.Proofs.Ytjmmhfkjmeblnaa
open Go.RowKit
set_option linter.unusedVariables false
set_option linter.unusedSimpArgs false

/-- bytes that a call lays in a new block -/
theorem bytes_new (w : World) (l : List Int) (t : TypeId) : BytesIn (w.alloc (.cells (bvs l).toArray t)) (w.heap.size + 1) (some ⟨w.heap.size, 0, none⟩) l := fun j x hx =>
  ⟨_, rfl, by show w.heap.size < w.heap.size + 1; omega, cells_list_new' w (bvs l) t j _ (by unfold bvs; rw [List.getElem?_map, hx]; rfl)⟩
theorem b8_list {l : List Int} (h : l.all (fun x => decide (0 ≤ x) && decide (x ≤ 255)) = true) : Bytes8 l := fun x hx => by
  have := List.all_eq_true.1 h x hx
  simp only [Bool.and_eq_true, decide_eq_true_eq] at this
  exact this
theorem ex1 : opB (nextO [221, 54, 5, 7]) (okM [221, 54, 5, 7]) = .tuple #[opV 3 54 5 7 4 0, .bool true] := rfl
theorem ex2 : opB (nextO [221, 253, 33, 52, 18]) (okM [221, 253, 33, 52, 18]) = .tuple #[opV 4 33 0 4660 5 1, .bool true] := rfl
theorem ex3 : Stops [0, 203] 1 := by
  refine ⟨fun j hj => ?_, rfl⟩
  obtain rfl : j = 0 := by omega
  rfl
theorem ex4 : bytesL 3 54 5 7 = [221, 54, 5, 7] := rfl
theorem nex1 (W : World) (b : Nat) (hb : b = W.heap.size) : Calls Try.prog 15 #[.slice (some ⟨b, 0, none⟩) 4 4] (W.alloc (.cells #[.int .u8 221, .int .u8 54, .int .u8 5, .int .u8 7] 5)) fun e w' =>
    e = .returned (.tuple #[opV 3 54 5 7 4 0, .bool true]) ∧ Below (W.alloc (.cells #[.int .u8 221, .int .u8 54, .int .u8 5, .int .u8 7] 5)).heap.size (W.alloc (.cells #[.int .u8 221, .int .u8 54, .int .u8 5, .int .u8 7] 5)) w' := by
  subst hb
  have h := next_any (some ⟨W.heap.size, 0, none⟩) 4 [221, 54, 5, 7] (by decide) (b8_list rfl) (W.alloc (.cells (bvs [221, 54, 5, 7]).toArray 5)) ((bytes_new W _ _).more (by simp))
  rw [ex1] at h
  exact h
theorem nex2 (W : World) (b : Nat) (hb : b = W.heap.size) : Calls Try.prog 15 #[.slice (some ⟨b, 0, none⟩) 5 5] (W.alloc (.cells #[.int .u8 221, .int .u8 253, .int .u8 33, .int .u8 52, .int .u8 18] 5)) fun e w' =>
    e = .returned (.tuple #[opV 4 33 0 4660 5 1, .bool true]) ∧ Below (W.alloc (.cells #[.int .u8 221, .int .u8 253, .int .u8 33, .int .u8 52, .int .u8 18] 5)).heap.size (W.alloc (.cells #[.int .u8 221, .int .u8 253, .int .u8 33, .int .u8 52, .int .u8 18] 5)) w' := by
  subst hb
  have h := next_any (some ⟨W.heap.size, 0, none⟩) 5 [221, 253, 33, 52, 18] (by decide) (b8_list rfl) (W.alloc (.cells (bvs [221, 253, 33, 52, 18]).toArray 5)) ((bytes_new W _ _).more (by simp))
  rw [ex2] at h
  exact h
theorem nex3 (W : World) (b : Nat) (hb : b = W.heap.size) : Calls Try.prog 17 #[.slice (some ⟨b, 0, none⟩) 2 2] (W.alloc (.cells #[.int .u8 0, .int .u8 203] 5)) fun e w' =>
    ∃ A c, e = .returned (.tuple #[.slice A 1 c, .int .i64 1]) ∧ Below (W.alloc (.cells #[.int .u8 0, .int .u8 203] 5)).heap.size (W.alloc (.cells #[.int .u8 0, .int .u8 203] 5)) w' := by
  subst hb
  have h := all_any (some ⟨W.heap.size, 0, none⟩) 2 [0, 203] (by decide) (by decide) (b8_list rfl) (W.alloc (.cells (bvs [0, 203]).toArray 5)) ((bytes_new W _ _).more (by simp))
  refine Calls.mono h ?_
  rintro e w' ⟨k, v, hst, rfl, hown, hb⟩
  obtain rfl := hst.same ex3
  rcases hown.2 with ⟨_, h0⟩ | ⟨g, cap, cur, rfl, -⟩
  · cases h0
  · exact ⟨_, _, rfl, hb⟩
theorem nex4 (W : World) : Calls Try.prog 20 #[opV 3 54 5 7 4 0] W fun e w' => ∃ A c, e = .returned (.slice A 4 c) ∧ Below W.heap.size W w' := by
  have h := bytes_any 3 54 5 7 4 0 ⟨by decide, by decide⟩ ⟨by decide, by decide⟩ (by decide) (by decide) W
  rw [ex4] at h
  refine Calls.mono h ?_
  rintro e w' ⟨v, rfl, hown, hb⟩
  rcases hown.2 with ⟨_, h0⟩ | ⟨g, cap, cur, rfl, -⟩
  · cases h0
  · exact ⟨_, _, rfl, hb⟩
theorem nex5 (W : World) : Calls Try.prog 11 #[.int .i64 2, .int .u8 67] W fun e w' => e = .returned (.int .i64 2) ∧ Below W.heap.size W w' := by
  have h := size_any 2 67 ⟨by decide, by decide⟩ W
  rw [show sizeM 2 67 = 2 from rfl] at h
  exact h
theorem nex6 (W : World) : Calls Try.prog 13 #[.int .i64 3, .int .u8 126] W fun e w' => e = .returned (.bool true) ∧ W = w' := by
  have h := dnear_any 3 126 ⟨by decide, by decide⟩ W
  rw [show nearM 3 126 = true from rfl] at h
  exact h
theorem nex7 (W : World) : Calls Try.prog 9 #[.int .u8 94] W fun e w' => e = .returned (.tuple #[.int .i64 1, .int .i64 3, .int .i64 6, .int .i64 1, .int .i64 1]) ∧ W = w' := by
  have h := fields_any 94 ⟨by decide, by decide⟩ W
  rw [show five 94 = .tuple #[.int .i64 1, .int .i64 3, .int .i64 6, .int .i64 1, .int .i64 1] from rfl] at h
  exact h
set_option maxHeartbeats 1000000 in
theorem dawake_any (w : World) :
    Calls Try.prog 8 #[] w fun e w' => e = .returned (.bool true) ∧ Below w.heap.size w w' := by
  go_enter Try.func8, Try.ntmps8
  go_wp2_with fail
  refine (nex1 _ _ (by simp)).mono ?_
  rintro e w1 ⟨rfl, hb1⟩
  go_wp2_with fail
  refine (nex2 _ _ (by simp)).mono ?_
  rintro e w2 ⟨rfl, hb2⟩
  go_wp2_with fail
  refine (nex7 _).mono ?_
  rintro e w3 ⟨rfl, rfl⟩
  go_wp2_with fail
  refine (nex3 _ _ (by simp)).mono ?_
  rintro e w4 ⟨A4, c4, rfl, hb4⟩
  have ro2 := ((Row.new w1 30 #[.int .i64 3, .int .u8 54, .int .u8 5, .int .u16 7, .int .i64 4, .int .i64 0]).alloc _).below hb2 (by simp; omega)
  have ro4 := ((ro2.alloc _).alloc _).below hb4 (by have := ro2.lt; simp; omega)
  have rp4 := ((Row.new w2 30 #[.int .i64 4, .int .u8 33, .int .u8 0, .int .u16 4660, .int .i64 5, .int .i64 1]).alloc _).below hb4 (by simp; omega)
  obtain ⟨⟨c0, c1, c2, c3, c4', c5⟩, f⟩ := row6 ro4
  obtain ⟨⟨d0, d1, d2, d3, d4, d5⟩, g⟩ := row6 rp4
  have hsz1 := hb1.size
  have hsz2 := hb2.size
  have hsz4 := hb4.size
  go_wp2_with (first
    | (go_at_call 20; refine (nex4 _).mono ?_; rintro e w5 ⟨A5, c5, rfl, hb5⟩)
    | (go_at_call 11; refine (nex5 _).mono ?_; rintro e w' ⟨rfl, hb⟩; have hsz := hb.size)
    | (go_at_call 13; refine (nex6 _).mono ?_; rintro e w' ⟨rfl, rfl⟩))
  have B1 : Below w.heap.size w w1 := ((Below.refl _ w).alloc (Nat.le_refl _) _).trans (hb1.mono (by simp))
  have B2 : Below w.heap.size w w2 := ((B1.alloc B1.size _).alloc (by have := B1.size; simp; omega) _).trans (hb2.mono (by have := B1.size; simp; omega))
  have B4 : Below w.heap.size w w4 := ((B2.alloc B2.size _).alloc (by have := B2.size; simp; omega) _).trans (hb4.mono (by have := B2.size; simp; omega))
  have B5 : Below w.heap.size w w5 := B4.trans (hb5.mono B4.size)
  go_ret
  exact ⟨rfl, B5.trans (hb.mono B5.size)⟩
set_option maxHeartbeats 1000000 in
theorem decodeCodes_walk (p c : Int) (h0 : 0 ≤ c) (h1 : c ≤ 255) (w : World) :
    Calls Try.prog 3 #[.int .i64 p, .int .u8 c] w fun e w' => e = .returned (.bool true) ∧ Below w.heap.size w w' := by
  have hc : B8 c := ⟨h0, h1⟩
  have k1 := Lib.hid (fields_any c hc)
  have k2 := Lib.hid (rfields_any c hc)
  have k3 := Lib.hid (size_any p c hc)
  have k4 := Lib.hid (rsize_any p c hc)
  have k5 := Lib.hid (dnear_any p c hc)
  have k6 := Lib.hid (drnear_any p c hc)
  go_enter Try.func3, Try.ntmps3
  go_wp2_with (first
    | (go_at_call 8; refine (dawake_any _).mono ?_; rintro e w' ⟨rfl, hb⟩; have hsz := hb.size)
    | (go_at_call 9; refine (k1.out _).mono ?_; rintro e w' ⟨rfl, rfl⟩)
    | (go_at_call 10; refine (k2.out _).mono ?_; rintro e w' ⟨rfl, rfl⟩)
    | (go_at_call 11; refine (k3.out _).mono ?_; rintro e w' ⟨rfl, hb⟩; have hsz := hb.size)
    | (go_at_call 12; refine (k4.out _).mono ?_; rintro e w' ⟨rfl, rfl⟩)
    | (go_at_call 13; refine (k5.out _).mono ?_; rintro e w' ⟨rfl, rfl⟩)
    | (go_at_call 14; refine (k6.out _).mono ?_; rintro e w' ⟨rfl, rfl⟩))
  go_ret
  exact ⟨rfl, (by repeat (first | exact Below.refl _ _ | assumption | refine bstep ?_ (by assumption) | refine Below.drew ?_ | refine Below.alloc ?_ (by first | (simp; done) | (simp; omega) | omega) _ | refine Below.setCell ?_ (by first | (simp; done) | (simp; omega) | omega) _))⟩
end Go.Proofs.Ytjmmhfkjmeblnaa
