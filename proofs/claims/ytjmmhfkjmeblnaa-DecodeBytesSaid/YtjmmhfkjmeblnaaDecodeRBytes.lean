/- Layer 8 (decode): the document's Bytes: contract. -/
import Derived.Test.YtjmmhfkjmeblnaaDecodeMake
import Derived.Test.YtjmmhfkjmeblnaaDecodeLeaf
import Derived.Maps.AppendAt
namespace Go.Proofs.Ytjmmhfkjmeblnaa
open Go.RowKit
set_option linter.unusedVariables false
set_option linter.unusedSimpArgs false

set_option maxHeartbeats 4000000 in
theorem rbytes_out (p c d i le sk : Int) (hp : p < 0 ∨ 6 < p) (w : World) :
    Calls Try.prog 21 #[opV p c d i le sk] w fun e w' => e = .returned (.slice none 0 0) ∧ Below w.heap.size w w' := by
  obtain ⟨n0, n1, n2, n3, n4, n5, n6⟩ := plane_no p hp
  go_enter Try.func21, Try.ntmps21
  go_wp2
  go_ret
  exact ⟨rfl, (by repeat (first | exact Below.refl _ _ | assumption | refine bstep ?_ (by assumption) | refine Below.drew ?_ | refine Below.alloc ?_ (by first | (simp; done) | (simp; omega) | omega) _ | refine Below.setCell ?_ (by first | (simp; done) | (simp; omega) | omega) _))⟩
set_option maxHeartbeats 4000000 in
theorem rbytes_5 (c d i le sk : Int) (w : World) :
    Calls Try.prog 21 #[opV 5 c d i le sk] w fun e w' => ∃ v, e = .returned v ∧ OwnBytes w' w.heap.size v [221, 203, d, c] ∧ Below w.heap.size w w' := by
  have lit := Lib.hid (World.ownsRow_lit (base := w.heap.size) (e := 5) (size := 1) (w.alloc (.cells #[.int .i64 5, .int .u8 c, .int .u8 d, .int .u16 i, .int .i64 le, .int .i64 sk] 30)) #[.int .u8 221, .int .u8 203, .int .u8 d, .int .u8 c] 4 (by simp) (by decide) rfl)
  go_enter Try.func21, Try.ntmps21
  go_wp2
  go_ret
  refine ⟨_, rfl, ?_, (by repeat (first | exact Below.refl _ _ | assumption | refine bstep ?_ (by assumption) | refine Below.drew ?_ | refine Below.alloc ?_ (by first | (simp; done) | (simp; omega) | omega) _ | refine Below.setCell ?_ (by first | (simp; done) | (simp; omega) | omega) _))⟩
  have := lit.out
  rw [World.size_alloc] at this
  exact this
set_option maxHeartbeats 4000000 in
theorem rbytes_6 (c d i le sk : Int) (w : World) :
    Calls Try.prog 21 #[opV 6 c d i le sk] w fun e w' => ∃ v, e = .returned v ∧ OwnBytes w' w.heap.size v [253, 203, d, c] ∧ Below w.heap.size w w' := by
  have lit := Lib.hid (World.ownsRow_lit (base := w.heap.size) (e := 5) (size := 1) (w.alloc (.cells #[.int .i64 6, .int .u8 c, .int .u8 d, .int .u16 i, .int .i64 le, .int .i64 sk] 30)) #[.int .u8 253, .int .u8 203, .int .u8 d, .int .u8 c] 4 (by simp) (by decide) rfl)
  go_enter Try.func21, Try.ntmps21
  go_wp2
  go_ret
  refine ⟨_, rfl, ?_, (by repeat (first | exact Below.refl _ _ | assumption | refine bstep ?_ (by assumption) | refine Below.drew ?_ | refine Below.alloc ?_ (by first | (simp; done) | (simp; omega) | omega) _ | refine Below.setCell ?_ (by first | (simp; done) | (simp; omega) | omega) _))⟩
  have := lit.out
  rw [World.size_alloc] at this
  exact this
set_option maxHeartbeats 4000000 in
theorem rbytes_0_n0 (c d i le sk : Int) (hc : B8 c) (h0 : 0 ≤ i) (h1 : i ≤ 65535) (hnr : nearM 0 c = false) (hs : sizeM 0 c = 0) (w : World) :
    Calls Try.prog 21 #[opV 0 c d i le sk] w fun e w' => ∃ v, e = .returned v ∧ OwnBytes w' w.heap.size v [c] ∧ Below w.heap.size w w' := by
  have hd1 : IntKind.u16.wrap (i.tdiv 256) = i / 256 := by rw [Int.tdiv_eq_ediv_of_nonneg h0, wraps16 _ (by omega) (by omega)]
  have hd2 : i / 256 % 256 = i / 256 := by omega
  have hnn := Lib.hid (drnear_any 0 c hc)
  rw [hnr] at hnn
  have hss := Lib.hid (rsize_any 0 c hc)
  rw [hs] at hss
  obtain ⟨i0, hi0, hz0, hz1, hz2⟩ := info_parts u8_info
  have B0 : Below w.heap.size w (w.alloc (.cells #[.int .i64 0, .int .u8 c, .int .u8 d, .int .u16 i, .int .i64 le, .int .i64 sk] 30)) := (by repeat (first | exact Below.refl _ _ | assumption | refine bstep ?_ (by assumption) | refine Below.drew ?_ | refine Below.alloc ?_ (by first | (simp; done) | (simp; omega) | omega) _ | refine Below.setCell ?_ (by first | (simp; done) | (simp; omega) | omega) _))
  have r0 := Row.new w 30 #[.int .i64 0, .int .u8 c, .int .u8 d, .int .u16 i, .int .i64 le, .int .i64 sk]
  have own0 := World.ownsRow_nil (w.alloc (.cells #[.int .i64 0, .int .u8 c, .int .u8 d, .int .u16 i, .int .i64 le, .int .i64 sk] 30)) (w.heap.size + 1) 5 1
  have tmp0 := cells_list_new' (w.alloc (.cells #[.int .i64 0, .int .u8 c, .int .u8 d, .int .u16 i, .int .i64 le, .int .i64 sk] 30)) [.int .u8 c] 5
  simp only [World.size_alloc] at tmp0
  have own0 := Lib.hid own0
  have r0 := Lib.hid r0
  have B0 := Lib.hid B0
  go_enter Try.func21, Try.ntmps21
  go_wp2_with (first
    | (go_at_call 14; refine (hnn.out _).mono ?_; rintro e w' ⟨rfl, rfl⟩)
    | (go_at_call 12; refine (hss.out _).mono ?_; rintro e w' ⟨rfl, rfl⟩)
    | (at_builtin; refine wpList_append_own_at _ rfl (.tmp 36) (.tmp 39) _ rfl (w.heap.size + 1) 5 i0 _ 1 1 Try.underlying27 hi0 hz0 hz1 hz2 rfl (by omega) (.slice none 0 0) 0 ([]) rfl (own0.out.alloc (.cells #[.int .u8 (c)] 5)) ⟨w.heap.size + 1, 0, none⟩ 1 1 [.int .u8 (c)] rfl rfl tmp0 (by intro u hu; simp at hu; rcases hu with rfl; rfl) (by simp only [maxLen]; omega) (by omega) (by simp) ?_; intro v1 w1 own1 hg0 hni0 hat0; have hz0' : w.heap.size + 1 ≤ w1.heap.size := Nat.le_trans (by simp) hg0.size; have r1 := Lib.hid (grown_row (r0.out.alloc (.cells #[.int .u8 (c)] 5)) hg0 (own0.out.alloc (.cells #[.int .u8 (c)] 5)) (by omega)); have B1 := Lib.hid (grown_below (B0.out.alloc (by have := B0.out.size; omega) (.cells #[.int .u8 (c)] 5)) hg0 (own0.out.alloc (.cells #[.int .u8 (c)] 5)) (by omega)); obtain ⟨⟨c0, c1, c2, c3, c4, c5⟩, f⟩ := row6 r1.out; have own1 := Lib.hid own1))
  go_ret
  exact ⟨v1, rfl, own_mono own1.out (by omega), B1.out⟩
set_option maxHeartbeats 4000000 in
theorem rbytes_0_n1 (c d i le sk : Int) (hc : B8 c) (h0 : 0 ≤ i) (h1 : i ≤ 65535) (hnr : nearM 0 c = false) (hs : sizeM 0 c = 1) (w : World) :
    Calls Try.prog 21 #[opV 0 c d i le sk] w fun e w' => ∃ v, e = .returned v ∧ OwnBytes w' w.heap.size v [c, i % 256] ∧ Below w.heap.size w w' := by
  have hd1 : IntKind.u16.wrap (i.tdiv 256) = i / 256 := by rw [Int.tdiv_eq_ediv_of_nonneg h0, wraps16 _ (by omega) (by omega)]
  have hd2 : i / 256 % 256 = i / 256 := by omega
  have hnn := Lib.hid (drnear_any 0 c hc)
  rw [hnr] at hnn
  have hss := Lib.hid (rsize_any 0 c hc)
  rw [hs] at hss
  obtain ⟨i0, hi0, hz0, hz1, hz2⟩ := info_parts u8_info
  have B0 : Below w.heap.size w (w.alloc (.cells #[.int .i64 0, .int .u8 c, .int .u8 d, .int .u16 i, .int .i64 le, .int .i64 sk] 30)) := (by repeat (first | exact Below.refl _ _ | assumption | refine bstep ?_ (by assumption) | refine Below.drew ?_ | refine Below.alloc ?_ (by first | (simp; done) | (simp; omega) | omega) _ | refine Below.setCell ?_ (by first | (simp; done) | (simp; omega) | omega) _))
  have r0 := Row.new w 30 #[.int .i64 0, .int .u8 c, .int .u8 d, .int .u16 i, .int .i64 le, .int .i64 sk]
  have own0 := World.ownsRow_nil (w.alloc (.cells #[.int .i64 0, .int .u8 c, .int .u8 d, .int .u16 i, .int .i64 le, .int .i64 sk] 30)) (w.heap.size + 1) 5 1
  have tmp0 := cells_list_new' (w.alloc (.cells #[.int .i64 0, .int .u8 c, .int .u8 d, .int .u16 i, .int .i64 le, .int .i64 sk] 30)) [.int .u8 c] 5
  simp only [World.size_alloc] at tmp0
  have own0 := Lib.hid own0
  have r0 := Lib.hid r0
  have B0 := Lib.hid B0
  go_enter Try.func21, Try.ntmps21
  go_wp2_with (first
    | (go_at_call 14; refine (hnn.out _).mono ?_; rintro e w' ⟨rfl, rfl⟩)
    | (go_at_call 12; refine (hss.out _).mono ?_; rintro e w' ⟨rfl, rfl⟩)
    | (at_builtin; refine wpList_append_own_at _ rfl (.tmp 36) (.tmp 39) _ rfl (w.heap.size + 1) 5 i0 _ 1 1 Try.underlying27 hi0 hz0 hz1 hz2 rfl (by omega) (.slice none 0 0) 0 ([]) rfl (own0.out.alloc (.cells #[.int .u8 (c)] 5)) ⟨w.heap.size + 1, 0, none⟩ 1 1 [.int .u8 (c)] rfl rfl tmp0 (by intro u hu; simp at hu; rcases hu with rfl; rfl) (by simp only [maxLen]; omega) (by omega) (by simp) ?_; intro v1 w1 own1 hg0 hni0 hat0; have hz0' : w.heap.size + 1 ≤ w1.heap.size := Nat.le_trans (by simp) hg0.size; have r1 := Lib.hid (grown_row (r0.out.alloc (.cells #[.int .u8 (c)] 5)) hg0 (own0.out.alloc (.cells #[.int .u8 (c)] 5)) (by omega)); have B1 := Lib.hid (grown_below (B0.out.alloc (by have := B0.out.size; omega) (.cells #[.int .u8 (c)] 5)) hg0 (own0.out.alloc (.cells #[.int .u8 (c)] 5)) (by omega)); obtain ⟨⟨c0, c1, c2, c3, c4, c5⟩, f⟩ := row6 r1.out; have own1 := Lib.hid own1)
    | (at_builtin; refine wpList_append_own_at _ rfl (.tmp 59) (.tmp 64) _ rfl (w.heap.size + 1) 5 i0 _ 1 1 Try.underlying27 hi0 hz0 hz1 hz2 rfl (by omega) v1 1 ([] ++ [.int .u8 (c)]) rfl (own1.out.alloc (.cells #[.int .u8 (i % 256)] 5)) ⟨w1.heap.size, 0, none⟩ 1 1 [.int .u8 (i % 256)] rfl rfl (cells_list_new' w1 [.int .u8 (i % 256)] 5) (by intro u hu; simp at hu; rcases hu with rfl; rfl) (by simp only [maxLen]; omega) (by omega) (by have := hz0'; simp; omega) ?_; intro v2 w2 own2 hg1 hni1 hat1; have hz1' : w.heap.size + 1 ≤ w2.heap.size := Nat.le_trans (by have := hz0'; simp; omega) hg1.size; have r2 := Lib.hid (grown_row (r1.out.alloc (.cells #[.int .u8 (i % 256)] 5)) hg1 (own1.out.alloc (.cells #[.int .u8 (i % 256)] 5)) (by omega)); have B2 := Lib.hid (grown_below (B1.out.alloc (by have := B1.out.size; omega) (.cells #[.int .u8 (i % 256)] 5)) hg1 (own1.out.alloc (.cells #[.int .u8 (i % 256)] 5)) (by omega)); obtain ⟨⟨c0, c1, c2, c3, c4, c5⟩, f⟩ := row6 r2.out; have own2 := Lib.hid own2))
  go_ret
  exact ⟨v2, rfl, own_mono own2.out (by omega), B2.out⟩
set_option maxHeartbeats 4000000 in
theorem rbytes_0_n2 (c d i le sk : Int) (hc : B8 c) (h0 : 0 ≤ i) (h1 : i ≤ 65535) (hnr : nearM 0 c = false) (hs : sizeM 0 c = 2) (w : World) :
    Calls Try.prog 21 #[opV 0 c d i le sk] w fun e w' => ∃ v, e = .returned v ∧ OwnBytes w' w.heap.size v [c, i % 256, i / 256] ∧ Below w.heap.size w w' := by
  have hd1 : IntKind.u16.wrap (i.tdiv 256) = i / 256 := by rw [Int.tdiv_eq_ediv_of_nonneg h0, wraps16 _ (by omega) (by omega)]
  have hd2 : i / 256 % 256 = i / 256 := by omega
  have hnn := Lib.hid (drnear_any 0 c hc)
  rw [hnr] at hnn
  have hss := Lib.hid (rsize_any 0 c hc)
  rw [hs] at hss
  obtain ⟨i0, hi0, hz0, hz1, hz2⟩ := info_parts u8_info
  have B0 : Below w.heap.size w (w.alloc (.cells #[.int .i64 0, .int .u8 c, .int .u8 d, .int .u16 i, .int .i64 le, .int .i64 sk] 30)) := (by repeat (first | exact Below.refl _ _ | assumption | refine bstep ?_ (by assumption) | refine Below.drew ?_ | refine Below.alloc ?_ (by first | (simp; done) | (simp; omega) | omega) _ | refine Below.setCell ?_ (by first | (simp; done) | (simp; omega) | omega) _))
  have r0 := Row.new w 30 #[.int .i64 0, .int .u8 c, .int .u8 d, .int .u16 i, .int .i64 le, .int .i64 sk]
  have own0 := World.ownsRow_nil (w.alloc (.cells #[.int .i64 0, .int .u8 c, .int .u8 d, .int .u16 i, .int .i64 le, .int .i64 sk] 30)) (w.heap.size + 1) 5 1
  have tmp0 := cells_list_new' (w.alloc (.cells #[.int .i64 0, .int .u8 c, .int .u8 d, .int .u16 i, .int .i64 le, .int .i64 sk] 30)) [.int .u8 c] 5
  simp only [World.size_alloc] at tmp0
  have own0 := Lib.hid own0
  have r0 := Lib.hid r0
  have B0 := Lib.hid B0
  go_enter Try.func21, Try.ntmps21
  go_wp2_with (first
    | (go_at_call 14; refine (hnn.out _).mono ?_; rintro e w' ⟨rfl, rfl⟩)
    | (go_at_call 12; refine (hss.out _).mono ?_; rintro e w' ⟨rfl, rfl⟩)
    | (at_builtin; refine wpList_append_own_at _ rfl (.tmp 36) (.tmp 39) _ rfl (w.heap.size + 1) 5 i0 _ 1 1 Try.underlying27 hi0 hz0 hz1 hz2 rfl (by omega) (.slice none 0 0) 0 ([]) rfl (own0.out.alloc (.cells #[.int .u8 (c)] 5)) ⟨w.heap.size + 1, 0, none⟩ 1 1 [.int .u8 (c)] rfl rfl tmp0 (by intro u hu; simp at hu; rcases hu with rfl; rfl) (by simp only [maxLen]; omega) (by omega) (by simp) ?_; intro v1 w1 own1 hg0 hni0 hat0; have hz0' : w.heap.size + 1 ≤ w1.heap.size := Nat.le_trans (by simp) hg0.size; have r1 := Lib.hid (grown_row (r0.out.alloc (.cells #[.int .u8 (c)] 5)) hg0 (own0.out.alloc (.cells #[.int .u8 (c)] 5)) (by omega)); have B1 := Lib.hid (grown_below (B0.out.alloc (by have := B0.out.size; omega) (.cells #[.int .u8 (c)] 5)) hg0 (own0.out.alloc (.cells #[.int .u8 (c)] 5)) (by omega)); obtain ⟨⟨c0, c1, c2, c3, c4, c5⟩, f⟩ := row6 r1.out; have own1 := Lib.hid own1)
    | (at_builtin; refine wpList_append_own_at _ rfl (.tmp 59) (.tmp 64) _ rfl (w.heap.size + 1) 5 i0 _ 1 1 Try.underlying27 hi0 hz0 hz1 hz2 rfl (by omega) v1 1 ([] ++ [.int .u8 (c)]) rfl (own1.out.alloc (.cells #[.int .u8 (i % 256)] 5)) ⟨w1.heap.size, 0, none⟩ 1 1 [.int .u8 (i % 256)] rfl rfl (cells_list_new' w1 [.int .u8 (i % 256)] 5) (by intro u hu; simp at hu; rcases hu with rfl; rfl) (by simp only [maxLen]; omega) (by omega) (by have := hz0'; simp; omega) ?_; intro v2 w2 own2 hg1 hni1 hat1; have hz1' : w.heap.size + 1 ≤ w2.heap.size := Nat.le_trans (by have := hz0'; simp; omega) hg1.size; have r2 := Lib.hid (grown_row (r1.out.alloc (.cells #[.int .u8 (i % 256)] 5)) hg1 (own1.out.alloc (.cells #[.int .u8 (i % 256)] 5)) (by omega)); have B2 := Lib.hid (grown_below (B1.out.alloc (by have := B1.out.size; omega) (.cells #[.int .u8 (i % 256)] 5)) hg1 (own1.out.alloc (.cells #[.int .u8 (i % 256)] 5)) (by omega)); obtain ⟨⟨c0, c1, c2, c3, c4, c5⟩, f⟩ := row6 r2.out; have own2 := Lib.hid own2)
    | (at_builtin; refine wpList_append_own_at _ rfl (.tmp 68) (.tmp 73) _ rfl (w.heap.size + 1) 5 i0 _ 1 1 Try.underlying27 hi0 hz0 hz1 hz2 rfl (by omega) v2 2 ([] ++ [.int .u8 (c)] ++ [.int .u8 (i % 256)]) rfl (own2.out.alloc (.cells #[.int .u8 (i / 256)] 5)) ⟨w2.heap.size, 0, none⟩ 1 1 [.int .u8 (i / 256)] rfl rfl (cells_list_new' w2 [.int .u8 (i / 256)] 5) (by intro u hu; simp at hu; rcases hu with rfl; rfl) (by simp only [maxLen]; omega) (by omega) (by have := hz1'; simp; omega) ?_; intro v3 w3 own3 hg2 hni2 hat2; have hz2' : w.heap.size + 1 ≤ w3.heap.size := Nat.le_trans (by have := hz1'; simp; omega) hg2.size; have r3 := Lib.hid (grown_row (r2.out.alloc (.cells #[.int .u8 (i / 256)] 5)) hg2 (own2.out.alloc (.cells #[.int .u8 (i / 256)] 5)) (by omega)); have B3 := Lib.hid (grown_below (B2.out.alloc (by have := B2.out.size; omega) (.cells #[.int .u8 (i / 256)] 5)) hg2 (own2.out.alloc (.cells #[.int .u8 (i / 256)] 5)) (by omega)); obtain ⟨⟨c0, c1, c2, c3, c4, c5⟩, f⟩ := row6 r3.out; have own3 := Lib.hid own3))
  go_ret
  exact ⟨v3, rfl, own_mono own3.out (by omega), B3.out⟩
set_option maxHeartbeats 4000000 in
theorem rbytes_1_n0 (c d i le sk : Int) (hc : B8 c) (h0 : 0 ≤ i) (h1 : i ≤ 65535) (hnr : nearM 1 c = false) (hs : sizeM 1 c = 0) (w : World) :
    Calls Try.prog 21 #[opV 1 c d i le sk] w fun e w' => ∃ v, e = .returned v ∧ OwnBytes w' w.heap.size v [203, c] ∧ Below w.heap.size w w' := by
  have hd1 : IntKind.u16.wrap (i.tdiv 256) = i / 256 := by rw [Int.tdiv_eq_ediv_of_nonneg h0, wraps16 _ (by omega) (by omega)]
  have hd2 : i / 256 % 256 = i / 256 := by omega
  have hnn := Lib.hid (drnear_any 1 c hc)
  rw [hnr] at hnn
  have hss := Lib.hid (rsize_any 1 c hc)
  rw [hs] at hss
  obtain ⟨i0, hi0, hz0, hz1, hz2⟩ := info_parts u8_info
  have B0 : Below w.heap.size w ((w.alloc (.cells #[.int .i64 1, .int .u8 c, .int .u8 d, .int .u16 i, .int .i64 le, .int .i64 sk] 30)).alloc (.cells #[.int .u8 203] 5)) := (by repeat (first | exact Below.refl _ _ | assumption | refine bstep ?_ (by assumption) | refine Below.drew ?_ | refine Below.alloc ?_ (by first | (simp; done) | (simp; omega) | omega) _ | refine Below.setCell ?_ (by first | (simp; done) | (simp; omega) | omega) _))
  have r0 := (Row.new w 30 #[.int .i64 1, .int .u8 c, .int .u8 d, .int .u16 i, .int .i64 le, .int .i64 sk]).alloc (.cells #[.int .u8 203] 5)
  have own0 := World.ownsRow_lit (base := w.heap.size + 1) (e := 5) (size := 1) (w.alloc (.cells #[.int .i64 1, .int .u8 c, .int .u8 d, .int .u16 i, .int .i64 le, .int .i64 sk] 30)) #[.int .u8 203] 1 (by simp) (by decide) rfl
  rw [World.size_alloc] at own0
  have tmp0 := cells_list_new' ((w.alloc (.cells #[.int .i64 1, .int .u8 c, .int .u8 d, .int .u16 i, .int .i64 le, .int .i64 sk] 30)).alloc (.cells #[.int .u8 203] 5)) [.int .u8 c] 5
  simp only [World.size_alloc] at tmp0
  have own0 := Lib.hid own0
  have r0 := Lib.hid r0
  have B0 := Lib.hid B0
  go_enter Try.func21, Try.ntmps21
  go_wp2_with (first
    | (go_at_call 14; refine (hnn.out _).mono ?_; rintro e w' ⟨rfl, rfl⟩)
    | (go_at_call 12; refine (hss.out _).mono ?_; rintro e w' ⟨rfl, rfl⟩)
    | (at_builtin; refine wpList_append_own_at _ rfl (.tmp 36) (.tmp 39) _ rfl (w.heap.size + 1) 5 i0 _ 1 1 Try.underlying27 hi0 hz0 hz1 hz2 rfl (by omega) (.slice (some ⟨w.heap.size + 1, 0, none⟩) 1 1) 1 ([.int .u8 203]) rfl (own0.out.alloc (.cells #[.int .u8 (c)] 5)) ⟨w.heap.size + 1 + 1, 0, none⟩ 1 1 [.int .u8 (c)] rfl rfl tmp0 (by intro u hu; simp at hu; rcases hu with rfl; rfl) (by simp only [maxLen]; omega) (by omega) (by simp) ?_; intro v1 w1 own1 hg0 hni0 hat0; have hz0' : w.heap.size + 1 ≤ w1.heap.size := Nat.le_trans (by simp) hg0.size; have r1 := Lib.hid (grown_row (r0.out.alloc (.cells #[.int .u8 (c)] 5)) hg0 (own0.out.alloc (.cells #[.int .u8 (c)] 5)) (by omega)); have B1 := Lib.hid (grown_below (B0.out.alloc (by have := B0.out.size; omega) (.cells #[.int .u8 (c)] 5)) hg0 (own0.out.alloc (.cells #[.int .u8 (c)] 5)) (by omega)); obtain ⟨⟨c0, c1, c2, c3, c4, c5⟩, f⟩ := row6 r1.out; have own1 := Lib.hid own1))
  go_ret
  exact ⟨v1, rfl, own_mono own1.out (by omega), B1.out⟩
set_option maxHeartbeats 4000000 in
theorem rbytes_2_n0 (c d i le sk : Int) (hc : B8 c) (h0 : 0 ≤ i) (h1 : i ≤ 65535) (hnr : nearM 2 c = false) (hs : sizeM 2 c = 0) (w : World) :
    Calls Try.prog 21 #[opV 2 c d i le sk] w fun e w' => ∃ v, e = .returned v ∧ OwnBytes w' w.heap.size v [237, c] ∧ Below w.heap.size w w' := by
  have hd1 : IntKind.u16.wrap (i.tdiv 256) = i / 256 := by rw [Int.tdiv_eq_ediv_of_nonneg h0, wraps16 _ (by omega) (by omega)]
  have hd2 : i / 256 % 256 = i / 256 := by omega
  have hnn := Lib.hid (drnear_any 2 c hc)
  rw [hnr] at hnn
  have hss := Lib.hid (rsize_any 2 c hc)
  rw [hs] at hss
  obtain ⟨i0, hi0, hz0, hz1, hz2⟩ := info_parts u8_info
  have B0 : Below w.heap.size w ((w.alloc (.cells #[.int .i64 2, .int .u8 c, .int .u8 d, .int .u16 i, .int .i64 le, .int .i64 sk] 30)).alloc (.cells #[.int .u8 237] 5)) := (by repeat (first | exact Below.refl _ _ | assumption | refine bstep ?_ (by assumption) | refine Below.drew ?_ | refine Below.alloc ?_ (by first | (simp; done) | (simp; omega) | omega) _ | refine Below.setCell ?_ (by first | (simp; done) | (simp; omega) | omega) _))
  have r0 := (Row.new w 30 #[.int .i64 2, .int .u8 c, .int .u8 d, .int .u16 i, .int .i64 le, .int .i64 sk]).alloc (.cells #[.int .u8 237] 5)
  have own0 := World.ownsRow_lit (base := w.heap.size + 1) (e := 5) (size := 1) (w.alloc (.cells #[.int .i64 2, .int .u8 c, .int .u8 d, .int .u16 i, .int .i64 le, .int .i64 sk] 30)) #[.int .u8 237] 1 (by simp) (by decide) rfl
  rw [World.size_alloc] at own0
  have tmp0 := cells_list_new' ((w.alloc (.cells #[.int .i64 2, .int .u8 c, .int .u8 d, .int .u16 i, .int .i64 le, .int .i64 sk] 30)).alloc (.cells #[.int .u8 237] 5)) [.int .u8 c] 5
  simp only [World.size_alloc] at tmp0
  have own0 := Lib.hid own0
  have r0 := Lib.hid r0
  have B0 := Lib.hid B0
  go_enter Try.func21, Try.ntmps21
  go_wp2_with (first
    | (go_at_call 14; refine (hnn.out _).mono ?_; rintro e w' ⟨rfl, rfl⟩)
    | (go_at_call 12; refine (hss.out _).mono ?_; rintro e w' ⟨rfl, rfl⟩)
    | (at_builtin; refine wpList_append_own_at _ rfl (.tmp 36) (.tmp 39) _ rfl (w.heap.size + 1) 5 i0 _ 1 1 Try.underlying27 hi0 hz0 hz1 hz2 rfl (by omega) (.slice (some ⟨w.heap.size + 1, 0, none⟩) 1 1) 1 ([.int .u8 237]) rfl (own0.out.alloc (.cells #[.int .u8 (c)] 5)) ⟨w.heap.size + 1 + 1, 0, none⟩ 1 1 [.int .u8 (c)] rfl rfl tmp0 (by intro u hu; simp at hu; rcases hu with rfl; rfl) (by simp only [maxLen]; omega) (by omega) (by simp) ?_; intro v1 w1 own1 hg0 hni0 hat0; have hz0' : w.heap.size + 1 ≤ w1.heap.size := Nat.le_trans (by simp) hg0.size; have r1 := Lib.hid (grown_row (r0.out.alloc (.cells #[.int .u8 (c)] 5)) hg0 (own0.out.alloc (.cells #[.int .u8 (c)] 5)) (by omega)); have B1 := Lib.hid (grown_below (B0.out.alloc (by have := B0.out.size; omega) (.cells #[.int .u8 (c)] 5)) hg0 (own0.out.alloc (.cells #[.int .u8 (c)] 5)) (by omega)); obtain ⟨⟨c0, c1, c2, c3, c4, c5⟩, f⟩ := row6 r1.out; have own1 := Lib.hid own1))
  go_ret
  exact ⟨v1, rfl, own_mono own1.out (by omega), B1.out⟩
set_option maxHeartbeats 4000000 in
theorem rbytes_2_n2 (c d i le sk : Int) (hc : B8 c) (h0 : 0 ≤ i) (h1 : i ≤ 65535) (hnr : nearM 2 c = false) (hs : sizeM 2 c = 2) (w : World) :
    Calls Try.prog 21 #[opV 2 c d i le sk] w fun e w' => ∃ v, e = .returned v ∧ OwnBytes w' w.heap.size v [237, c, i % 256, i / 256] ∧ Below w.heap.size w w' := by
  have hd1 : IntKind.u16.wrap (i.tdiv 256) = i / 256 := by rw [Int.tdiv_eq_ediv_of_nonneg h0, wraps16 _ (by omega) (by omega)]
  have hd2 : i / 256 % 256 = i / 256 := by omega
  have hnn := Lib.hid (drnear_any 2 c hc)
  rw [hnr] at hnn
  have hss := Lib.hid (rsize_any 2 c hc)
  rw [hs] at hss
  obtain ⟨i0, hi0, hz0, hz1, hz2⟩ := info_parts u8_info
  have B0 : Below w.heap.size w ((w.alloc (.cells #[.int .i64 2, .int .u8 c, .int .u8 d, .int .u16 i, .int .i64 le, .int .i64 sk] 30)).alloc (.cells #[.int .u8 237] 5)) := (by repeat (first | exact Below.refl _ _ | assumption | refine bstep ?_ (by assumption) | refine Below.drew ?_ | refine Below.alloc ?_ (by first | (simp; done) | (simp; omega) | omega) _ | refine Below.setCell ?_ (by first | (simp; done) | (simp; omega) | omega) _))
  have r0 := (Row.new w 30 #[.int .i64 2, .int .u8 c, .int .u8 d, .int .u16 i, .int .i64 le, .int .i64 sk]).alloc (.cells #[.int .u8 237] 5)
  have own0 := World.ownsRow_lit (base := w.heap.size + 1) (e := 5) (size := 1) (w.alloc (.cells #[.int .i64 2, .int .u8 c, .int .u8 d, .int .u16 i, .int .i64 le, .int .i64 sk] 30)) #[.int .u8 237] 1 (by simp) (by decide) rfl
  rw [World.size_alloc] at own0
  have tmp0 := cells_list_new' ((w.alloc (.cells #[.int .i64 2, .int .u8 c, .int .u8 d, .int .u16 i, .int .i64 le, .int .i64 sk] 30)).alloc (.cells #[.int .u8 237] 5)) [.int .u8 c] 5
  simp only [World.size_alloc] at tmp0
  have own0 := Lib.hid own0
  have r0 := Lib.hid r0
  have B0 := Lib.hid B0
  go_enter Try.func21, Try.ntmps21
  go_wp2_with (first
    | (go_at_call 14; refine (hnn.out _).mono ?_; rintro e w' ⟨rfl, rfl⟩)
    | (go_at_call 12; refine (hss.out _).mono ?_; rintro e w' ⟨rfl, rfl⟩)
    | (at_builtin; refine wpList_append_own_at _ rfl (.tmp 36) (.tmp 39) _ rfl (w.heap.size + 1) 5 i0 _ 1 1 Try.underlying27 hi0 hz0 hz1 hz2 rfl (by omega) (.slice (some ⟨w.heap.size + 1, 0, none⟩) 1 1) 1 ([.int .u8 237]) rfl (own0.out.alloc (.cells #[.int .u8 (c)] 5)) ⟨w.heap.size + 1 + 1, 0, none⟩ 1 1 [.int .u8 (c)] rfl rfl tmp0 (by intro u hu; simp at hu; rcases hu with rfl; rfl) (by simp only [maxLen]; omega) (by omega) (by simp) ?_; intro v1 w1 own1 hg0 hni0 hat0; have hz0' : w.heap.size + 1 ≤ w1.heap.size := Nat.le_trans (by simp) hg0.size; have r1 := Lib.hid (grown_row (r0.out.alloc (.cells #[.int .u8 (c)] 5)) hg0 (own0.out.alloc (.cells #[.int .u8 (c)] 5)) (by omega)); have B1 := Lib.hid (grown_below (B0.out.alloc (by have := B0.out.size; omega) (.cells #[.int .u8 (c)] 5)) hg0 (own0.out.alloc (.cells #[.int .u8 (c)] 5)) (by omega)); obtain ⟨⟨c0, c1, c2, c3, c4, c5⟩, f⟩ := row6 r1.out; have own1 := Lib.hid own1)
    | (at_builtin; refine wpList_append_own_at _ rfl (.tmp 59) (.tmp 64) _ rfl (w.heap.size + 1) 5 i0 _ 1 1 Try.underlying27 hi0 hz0 hz1 hz2 rfl (by omega) v1 2 ([.int .u8 237] ++ [.int .u8 (c)]) rfl (own1.out.alloc (.cells #[.int .u8 (i % 256)] 5)) ⟨w1.heap.size, 0, none⟩ 1 1 [.int .u8 (i % 256)] rfl rfl (cells_list_new' w1 [.int .u8 (i % 256)] 5) (by intro u hu; simp at hu; rcases hu with rfl; rfl) (by simp only [maxLen]; omega) (by omega) (by have := hz0'; simp; omega) ?_; intro v2 w2 own2 hg1 hni1 hat1; have hz1' : w.heap.size + 1 ≤ w2.heap.size := Nat.le_trans (by have := hz0'; simp; omega) hg1.size; have r2 := Lib.hid (grown_row (r1.out.alloc (.cells #[.int .u8 (i % 256)] 5)) hg1 (own1.out.alloc (.cells #[.int .u8 (i % 256)] 5)) (by omega)); have B2 := Lib.hid (grown_below (B1.out.alloc (by have := B1.out.size; omega) (.cells #[.int .u8 (i % 256)] 5)) hg1 (own1.out.alloc (.cells #[.int .u8 (i % 256)] 5)) (by omega)); obtain ⟨⟨c0, c1, c2, c3, c4, c5⟩, f⟩ := row6 r2.out; have own2 := Lib.hid own2)
    | (at_builtin; refine wpList_append_own_at _ rfl (.tmp 68) (.tmp 73) _ rfl (w.heap.size + 1) 5 i0 _ 1 1 Try.underlying27 hi0 hz0 hz1 hz2 rfl (by omega) v2 3 ([.int .u8 237] ++ [.int .u8 (c)] ++ [.int .u8 (i % 256)]) rfl (own2.out.alloc (.cells #[.int .u8 (i / 256)] 5)) ⟨w2.heap.size, 0, none⟩ 1 1 [.int .u8 (i / 256)] rfl rfl (cells_list_new' w2 [.int .u8 (i / 256)] 5) (by intro u hu; simp at hu; rcases hu with rfl; rfl) (by simp only [maxLen]; omega) (by omega) (by have := hz1'; simp; omega) ?_; intro v3 w3 own3 hg2 hni2 hat2; have hz2' : w.heap.size + 1 ≤ w3.heap.size := Nat.le_trans (by have := hz1'; simp; omega) hg2.size; have r3 := Lib.hid (grown_row (r2.out.alloc (.cells #[.int .u8 (i / 256)] 5)) hg2 (own2.out.alloc (.cells #[.int .u8 (i / 256)] 5)) (by omega)); have B3 := Lib.hid (grown_below (B2.out.alloc (by have := B2.out.size; omega) (.cells #[.int .u8 (i / 256)] 5)) hg2 (own2.out.alloc (.cells #[.int .u8 (i / 256)] 5)) (by omega)); obtain ⟨⟨c0, c1, c2, c3, c4, c5⟩, f⟩ := row6 r3.out; have own3 := Lib.hid own3))
  go_ret
  exact ⟨v3, rfl, own_mono own3.out (by omega), B3.out⟩
set_option maxHeartbeats 4000000 in
theorem rbytes_3_n0 (c d i le sk : Int) (hc : B8 c) (h0 : 0 ≤ i) (h1 : i ≤ 65535) (hnr : nearM 3 c = false) (hs : sizeM 3 c = 0) (w : World) :
    Calls Try.prog 21 #[opV 3 c d i le sk] w fun e w' => ∃ v, e = .returned v ∧ OwnBytes w' w.heap.size v [221, c] ∧ Below w.heap.size w w' := by
  have hd1 : IntKind.u16.wrap (i.tdiv 256) = i / 256 := by rw [Int.tdiv_eq_ediv_of_nonneg h0, wraps16 _ (by omega) (by omega)]
  have hd2 : i / 256 % 256 = i / 256 := by omega
  have hnn := Lib.hid (drnear_any 3 c hc)
  rw [hnr] at hnn
  have hss := Lib.hid (rsize_any 3 c hc)
  rw [hs] at hss
  obtain ⟨i0, hi0, hz0, hz1, hz2⟩ := info_parts u8_info
  have B0 : Below w.heap.size w ((w.alloc (.cells #[.int .i64 3, .int .u8 c, .int .u8 d, .int .u16 i, .int .i64 le, .int .i64 sk] 30)).alloc (.cells #[.int .u8 221] 5)) := (by repeat (first | exact Below.refl _ _ | assumption | refine bstep ?_ (by assumption) | refine Below.drew ?_ | refine Below.alloc ?_ (by first | (simp; done) | (simp; omega) | omega) _ | refine Below.setCell ?_ (by first | (simp; done) | (simp; omega) | omega) _))
  have r0 := (Row.new w 30 #[.int .i64 3, .int .u8 c, .int .u8 d, .int .u16 i, .int .i64 le, .int .i64 sk]).alloc (.cells #[.int .u8 221] 5)
  have own0 := World.ownsRow_lit (base := w.heap.size + 1) (e := 5) (size := 1) (w.alloc (.cells #[.int .i64 3, .int .u8 c, .int .u8 d, .int .u16 i, .int .i64 le, .int .i64 sk] 30)) #[.int .u8 221] 1 (by simp) (by decide) rfl
  rw [World.size_alloc] at own0
  have tmp0 := cells_list_new' ((w.alloc (.cells #[.int .i64 3, .int .u8 c, .int .u8 d, .int .u16 i, .int .i64 le, .int .i64 sk] 30)).alloc (.cells #[.int .u8 221] 5)) [.int .u8 c] 5
  simp only [World.size_alloc] at tmp0
  have own0 := Lib.hid own0
  have r0 := Lib.hid r0
  have B0 := Lib.hid B0
  go_enter Try.func21, Try.ntmps21
  go_wp2_with (first
    | (go_at_call 14; refine (hnn.out _).mono ?_; rintro e w' ⟨rfl, rfl⟩)
    | (go_at_call 12; refine (hss.out _).mono ?_; rintro e w' ⟨rfl, rfl⟩)
    | (at_builtin; refine wpList_append_own_at _ rfl (.tmp 36) (.tmp 39) _ rfl (w.heap.size + 1) 5 i0 _ 1 1 Try.underlying27 hi0 hz0 hz1 hz2 rfl (by omega) (.slice (some ⟨w.heap.size + 1, 0, none⟩) 1 1) 1 ([.int .u8 221]) rfl (own0.out.alloc (.cells #[.int .u8 (c)] 5)) ⟨w.heap.size + 1 + 1, 0, none⟩ 1 1 [.int .u8 (c)] rfl rfl tmp0 (by intro u hu; simp at hu; rcases hu with rfl; rfl) (by simp only [maxLen]; omega) (by omega) (by simp) ?_; intro v1 w1 own1 hg0 hni0 hat0; have hz0' : w.heap.size + 1 ≤ w1.heap.size := Nat.le_trans (by simp) hg0.size; have r1 := Lib.hid (grown_row (r0.out.alloc (.cells #[.int .u8 (c)] 5)) hg0 (own0.out.alloc (.cells #[.int .u8 (c)] 5)) (by omega)); have B1 := Lib.hid (grown_below (B0.out.alloc (by have := B0.out.size; omega) (.cells #[.int .u8 (c)] 5)) hg0 (own0.out.alloc (.cells #[.int .u8 (c)] 5)) (by omega)); obtain ⟨⟨c0, c1, c2, c3, c4, c5⟩, f⟩ := row6 r1.out; have own1 := Lib.hid own1))
  go_ret
  exact ⟨v1, rfl, own_mono own1.out (by omega), B1.out⟩
set_option maxHeartbeats 4000000 in
theorem rbytes_3_n1 (c d i le sk : Int) (hc : B8 c) (h0 : 0 ≤ i) (h1 : i ≤ 65535) (hnr : nearM 3 c = false) (hs : sizeM 3 c = 1) (w : World) :
    Calls Try.prog 21 #[opV 3 c d i le sk] w fun e w' => ∃ v, e = .returned v ∧ OwnBytes w' w.heap.size v [221, c, i % 256] ∧ Below w.heap.size w w' := by
  have hd1 : IntKind.u16.wrap (i.tdiv 256) = i / 256 := by rw [Int.tdiv_eq_ediv_of_nonneg h0, wraps16 _ (by omega) (by omega)]
  have hd2 : i / 256 % 256 = i / 256 := by omega
  have hnn := Lib.hid (drnear_any 3 c hc)
  rw [hnr] at hnn
  have hss := Lib.hid (rsize_any 3 c hc)
  rw [hs] at hss
  obtain ⟨i0, hi0, hz0, hz1, hz2⟩ := info_parts u8_info
  have B0 : Below w.heap.size w ((w.alloc (.cells #[.int .i64 3, .int .u8 c, .int .u8 d, .int .u16 i, .int .i64 le, .int .i64 sk] 30)).alloc (.cells #[.int .u8 221] 5)) := (by repeat (first | exact Below.refl _ _ | assumption | refine bstep ?_ (by assumption) | refine Below.drew ?_ | refine Below.alloc ?_ (by first | (simp; done) | (simp; omega) | omega) _ | refine Below.setCell ?_ (by first | (simp; done) | (simp; omega) | omega) _))
  have r0 := (Row.new w 30 #[.int .i64 3, .int .u8 c, .int .u8 d, .int .u16 i, .int .i64 le, .int .i64 sk]).alloc (.cells #[.int .u8 221] 5)
  have own0 := World.ownsRow_lit (base := w.heap.size + 1) (e := 5) (size := 1) (w.alloc (.cells #[.int .i64 3, .int .u8 c, .int .u8 d, .int .u16 i, .int .i64 le, .int .i64 sk] 30)) #[.int .u8 221] 1 (by simp) (by decide) rfl
  rw [World.size_alloc] at own0
  have tmp0 := cells_list_new' ((w.alloc (.cells #[.int .i64 3, .int .u8 c, .int .u8 d, .int .u16 i, .int .i64 le, .int .i64 sk] 30)).alloc (.cells #[.int .u8 221] 5)) [.int .u8 c] 5
  simp only [World.size_alloc] at tmp0
  have own0 := Lib.hid own0
  have r0 := Lib.hid r0
  have B0 := Lib.hid B0
  go_enter Try.func21, Try.ntmps21
  go_wp2_with (first
    | (go_at_call 14; refine (hnn.out _).mono ?_; rintro e w' ⟨rfl, rfl⟩)
    | (go_at_call 12; refine (hss.out _).mono ?_; rintro e w' ⟨rfl, rfl⟩)
    | (at_builtin; refine wpList_append_own_at _ rfl (.tmp 36) (.tmp 39) _ rfl (w.heap.size + 1) 5 i0 _ 1 1 Try.underlying27 hi0 hz0 hz1 hz2 rfl (by omega) (.slice (some ⟨w.heap.size + 1, 0, none⟩) 1 1) 1 ([.int .u8 221]) rfl (own0.out.alloc (.cells #[.int .u8 (c)] 5)) ⟨w.heap.size + 1 + 1, 0, none⟩ 1 1 [.int .u8 (c)] rfl rfl tmp0 (by intro u hu; simp at hu; rcases hu with rfl; rfl) (by simp only [maxLen]; omega) (by omega) (by simp) ?_; intro v1 w1 own1 hg0 hni0 hat0; have hz0' : w.heap.size + 1 ≤ w1.heap.size := Nat.le_trans (by simp) hg0.size; have r1 := Lib.hid (grown_row (r0.out.alloc (.cells #[.int .u8 (c)] 5)) hg0 (own0.out.alloc (.cells #[.int .u8 (c)] 5)) (by omega)); have B1 := Lib.hid (grown_below (B0.out.alloc (by have := B0.out.size; omega) (.cells #[.int .u8 (c)] 5)) hg0 (own0.out.alloc (.cells #[.int .u8 (c)] 5)) (by omega)); obtain ⟨⟨c0, c1, c2, c3, c4, c5⟩, f⟩ := row6 r1.out; have own1 := Lib.hid own1)
    | (at_builtin; refine wpList_append_own_at _ rfl (.tmp 59) (.tmp 64) _ rfl (w.heap.size + 1) 5 i0 _ 1 1 Try.underlying27 hi0 hz0 hz1 hz2 rfl (by omega) v1 2 ([.int .u8 221] ++ [.int .u8 (c)]) rfl (own1.out.alloc (.cells #[.int .u8 (i % 256)] 5)) ⟨w1.heap.size, 0, none⟩ 1 1 [.int .u8 (i % 256)] rfl rfl (cells_list_new' w1 [.int .u8 (i % 256)] 5) (by intro u hu; simp at hu; rcases hu with rfl; rfl) (by simp only [maxLen]; omega) (by omega) (by have := hz0'; simp; omega) ?_; intro v2 w2 own2 hg1 hni1 hat1; have hz1' : w.heap.size + 1 ≤ w2.heap.size := Nat.le_trans (by have := hz0'; simp; omega) hg1.size; have r2 := Lib.hid (grown_row (r1.out.alloc (.cells #[.int .u8 (i % 256)] 5)) hg1 (own1.out.alloc (.cells #[.int .u8 (i % 256)] 5)) (by omega)); have B2 := Lib.hid (grown_below (B1.out.alloc (by have := B1.out.size; omega) (.cells #[.int .u8 (i % 256)] 5)) hg1 (own1.out.alloc (.cells #[.int .u8 (i % 256)] 5)) (by omega)); obtain ⟨⟨c0, c1, c2, c3, c4, c5⟩, f⟩ := row6 r2.out; have own2 := Lib.hid own2))
  go_ret
  exact ⟨v2, rfl, own_mono own2.out (by omega), B2.out⟩
set_option maxHeartbeats 4000000 in
theorem rbytes_3_n2 (c d i le sk : Int) (hc : B8 c) (h0 : 0 ≤ i) (h1 : i ≤ 65535) (hnr : nearM 3 c = false) (hs : sizeM 3 c = 2) (w : World) :
    Calls Try.prog 21 #[opV 3 c d i le sk] w fun e w' => ∃ v, e = .returned v ∧ OwnBytes w' w.heap.size v [221, c, i % 256, i / 256] ∧ Below w.heap.size w w' := by
  have hd1 : IntKind.u16.wrap (i.tdiv 256) = i / 256 := by rw [Int.tdiv_eq_ediv_of_nonneg h0, wraps16 _ (by omega) (by omega)]
  have hd2 : i / 256 % 256 = i / 256 := by omega
  have hnn := Lib.hid (drnear_any 3 c hc)
  rw [hnr] at hnn
  have hss := Lib.hid (rsize_any 3 c hc)
  rw [hs] at hss
  obtain ⟨i0, hi0, hz0, hz1, hz2⟩ := info_parts u8_info
  have B0 : Below w.heap.size w ((w.alloc (.cells #[.int .i64 3, .int .u8 c, .int .u8 d, .int .u16 i, .int .i64 le, .int .i64 sk] 30)).alloc (.cells #[.int .u8 221] 5)) := (by repeat (first | exact Below.refl _ _ | assumption | refine bstep ?_ (by assumption) | refine Below.drew ?_ | refine Below.alloc ?_ (by first | (simp; done) | (simp; omega) | omega) _ | refine Below.setCell ?_ (by first | (simp; done) | (simp; omega) | omega) _))
  have r0 := (Row.new w 30 #[.int .i64 3, .int .u8 c, .int .u8 d, .int .u16 i, .int .i64 le, .int .i64 sk]).alloc (.cells #[.int .u8 221] 5)
  have own0 := World.ownsRow_lit (base := w.heap.size + 1) (e := 5) (size := 1) (w.alloc (.cells #[.int .i64 3, .int .u8 c, .int .u8 d, .int .u16 i, .int .i64 le, .int .i64 sk] 30)) #[.int .u8 221] 1 (by simp) (by decide) rfl
  rw [World.size_alloc] at own0
  have tmp0 := cells_list_new' ((w.alloc (.cells #[.int .i64 3, .int .u8 c, .int .u8 d, .int .u16 i, .int .i64 le, .int .i64 sk] 30)).alloc (.cells #[.int .u8 221] 5)) [.int .u8 c] 5
  simp only [World.size_alloc] at tmp0
  have own0 := Lib.hid own0
  have r0 := Lib.hid r0
  have B0 := Lib.hid B0
  go_enter Try.func21, Try.ntmps21
  go_wp2_with (first
    | (go_at_call 14; refine (hnn.out _).mono ?_; rintro e w' ⟨rfl, rfl⟩)
    | (go_at_call 12; refine (hss.out _).mono ?_; rintro e w' ⟨rfl, rfl⟩)
    | (at_builtin; refine wpList_append_own_at _ rfl (.tmp 36) (.tmp 39) _ rfl (w.heap.size + 1) 5 i0 _ 1 1 Try.underlying27 hi0 hz0 hz1 hz2 rfl (by omega) (.slice (some ⟨w.heap.size + 1, 0, none⟩) 1 1) 1 ([.int .u8 221]) rfl (own0.out.alloc (.cells #[.int .u8 (c)] 5)) ⟨w.heap.size + 1 + 1, 0, none⟩ 1 1 [.int .u8 (c)] rfl rfl tmp0 (by intro u hu; simp at hu; rcases hu with rfl; rfl) (by simp only [maxLen]; omega) (by omega) (by simp) ?_; intro v1 w1 own1 hg0 hni0 hat0; have hz0' : w.heap.size + 1 ≤ w1.heap.size := Nat.le_trans (by simp) hg0.size; have r1 := Lib.hid (grown_row (r0.out.alloc (.cells #[.int .u8 (c)] 5)) hg0 (own0.out.alloc (.cells #[.int .u8 (c)] 5)) (by omega)); have B1 := Lib.hid (grown_below (B0.out.alloc (by have := B0.out.size; omega) (.cells #[.int .u8 (c)] 5)) hg0 (own0.out.alloc (.cells #[.int .u8 (c)] 5)) (by omega)); obtain ⟨⟨c0, c1, c2, c3, c4, c5⟩, f⟩ := row6 r1.out; have own1 := Lib.hid own1)
    | (at_builtin; refine wpList_append_own_at _ rfl (.tmp 59) (.tmp 64) _ rfl (w.heap.size + 1) 5 i0 _ 1 1 Try.underlying27 hi0 hz0 hz1 hz2 rfl (by omega) v1 2 ([.int .u8 221] ++ [.int .u8 (c)]) rfl (own1.out.alloc (.cells #[.int .u8 (i % 256)] 5)) ⟨w1.heap.size, 0, none⟩ 1 1 [.int .u8 (i % 256)] rfl rfl (cells_list_new' w1 [.int .u8 (i % 256)] 5) (by intro u hu; simp at hu; rcases hu with rfl; rfl) (by simp only [maxLen]; omega) (by omega) (by have := hz0'; simp; omega) ?_; intro v2 w2 own2 hg1 hni1 hat1; have hz1' : w.heap.size + 1 ≤ w2.heap.size := Nat.le_trans (by have := hz0'; simp; omega) hg1.size; have r2 := Lib.hid (grown_row (r1.out.alloc (.cells #[.int .u8 (i % 256)] 5)) hg1 (own1.out.alloc (.cells #[.int .u8 (i % 256)] 5)) (by omega)); have B2 := Lib.hid (grown_below (B1.out.alloc (by have := B1.out.size; omega) (.cells #[.int .u8 (i % 256)] 5)) hg1 (own1.out.alloc (.cells #[.int .u8 (i % 256)] 5)) (by omega)); obtain ⟨⟨c0, c1, c2, c3, c4, c5⟩, f⟩ := row6 r2.out; have own2 := Lib.hid own2)
    | (at_builtin; refine wpList_append_own_at _ rfl (.tmp 68) (.tmp 73) _ rfl (w.heap.size + 1) 5 i0 _ 1 1 Try.underlying27 hi0 hz0 hz1 hz2 rfl (by omega) v2 3 ([.int .u8 221] ++ [.int .u8 (c)] ++ [.int .u8 (i % 256)]) rfl (own2.out.alloc (.cells #[.int .u8 (i / 256)] 5)) ⟨w2.heap.size, 0, none⟩ 1 1 [.int .u8 (i / 256)] rfl rfl (cells_list_new' w2 [.int .u8 (i / 256)] 5) (by intro u hu; simp at hu; rcases hu with rfl; rfl) (by simp only [maxLen]; omega) (by omega) (by have := hz1'; simp; omega) ?_; intro v3 w3 own3 hg2 hni2 hat2; have hz2' : w.heap.size + 1 ≤ w3.heap.size := Nat.le_trans (by have := hz1'; simp; omega) hg2.size; have r3 := Lib.hid (grown_row (r2.out.alloc (.cells #[.int .u8 (i / 256)] 5)) hg2 (own2.out.alloc (.cells #[.int .u8 (i / 256)] 5)) (by omega)); have B3 := Lib.hid (grown_below (B2.out.alloc (by have := B2.out.size; omega) (.cells #[.int .u8 (i / 256)] 5)) hg2 (own2.out.alloc (.cells #[.int .u8 (i / 256)] 5)) (by omega)); obtain ⟨⟨c0, c1, c2, c3, c4, c5⟩, f⟩ := row6 r3.out; have own3 := Lib.hid own3))
  go_ret
  exact ⟨v3, rfl, own_mono own3.out (by omega), B3.out⟩
set_option maxHeartbeats 4000000 in
theorem rbytes_3_y0 (c d i le sk : Int) (hc : B8 c) (h0 : 0 ≤ i) (h1 : i ≤ 65535) (hnr : nearM 3 c = true) (hs : sizeM 3 c = 0) (w : World) :
    Calls Try.prog 21 #[opV 3 c d i le sk] w fun e w' => ∃ v, e = .returned v ∧ OwnBytes w' w.heap.size v [221, c, d] ∧ Below w.heap.size w w' := by
  have hd1 : IntKind.u16.wrap (i.tdiv 256) = i / 256 := by rw [Int.tdiv_eq_ediv_of_nonneg h0, wraps16 _ (by omega) (by omega)]
  have hd2 : i / 256 % 256 = i / 256 := by omega
  have hnn := Lib.hid (drnear_any 3 c hc)
  rw [hnr] at hnn
  have hss := Lib.hid (rsize_any 3 c hc)
  rw [hs] at hss
  obtain ⟨i0, hi0, hz0, hz1, hz2⟩ := info_parts u8_info
  have B0 : Below w.heap.size w ((w.alloc (.cells #[.int .i64 3, .int .u8 c, .int .u8 d, .int .u16 i, .int .i64 le, .int .i64 sk] 30)).alloc (.cells #[.int .u8 221] 5)) := (by repeat (first | exact Below.refl _ _ | assumption | refine bstep ?_ (by assumption) | refine Below.drew ?_ | refine Below.alloc ?_ (by first | (simp; done) | (simp; omega) | omega) _ | refine Below.setCell ?_ (by first | (simp; done) | (simp; omega) | omega) _))
  have r0 := (Row.new w 30 #[.int .i64 3, .int .u8 c, .int .u8 d, .int .u16 i, .int .i64 le, .int .i64 sk]).alloc (.cells #[.int .u8 221] 5)
  have own0 := World.ownsRow_lit (base := w.heap.size + 1) (e := 5) (size := 1) (w.alloc (.cells #[.int .i64 3, .int .u8 c, .int .u8 d, .int .u16 i, .int .i64 le, .int .i64 sk] 30)) #[.int .u8 221] 1 (by simp) (by decide) rfl
  rw [World.size_alloc] at own0
  have tmp0 := cells_list_new' ((w.alloc (.cells #[.int .i64 3, .int .u8 c, .int .u8 d, .int .u16 i, .int .i64 le, .int .i64 sk] 30)).alloc (.cells #[.int .u8 221] 5)) [.int .u8 c] 5
  simp only [World.size_alloc] at tmp0
  have own0 := Lib.hid own0
  have r0 := Lib.hid r0
  have B0 := Lib.hid B0
  go_enter Try.func21, Try.ntmps21
  go_wp2_with (first
    | (go_at_call 14; refine (hnn.out _).mono ?_; rintro e w' ⟨rfl, rfl⟩)
    | (go_at_call 12; refine (hss.out _).mono ?_; rintro e w' ⟨rfl, rfl⟩)
    | (at_builtin; refine wpList_append_own_at _ rfl (.tmp 36) (.tmp 39) _ rfl (w.heap.size + 1) 5 i0 _ 1 1 Try.underlying27 hi0 hz0 hz1 hz2 rfl (by omega) (.slice (some ⟨w.heap.size + 1, 0, none⟩) 1 1) 1 ([.int .u8 221]) rfl (own0.out.alloc (.cells #[.int .u8 (c)] 5)) ⟨w.heap.size + 1 + 1, 0, none⟩ 1 1 [.int .u8 (c)] rfl rfl tmp0 (by intro u hu; simp at hu; rcases hu with rfl; rfl) (by simp only [maxLen]; omega) (by omega) (by simp) ?_; intro v1 w1 own1 hg0 hni0 hat0; have hz0' : w.heap.size + 1 ≤ w1.heap.size := Nat.le_trans (by simp) hg0.size; have r1 := Lib.hid (grown_row (r0.out.alloc (.cells #[.int .u8 (c)] 5)) hg0 (own0.out.alloc (.cells #[.int .u8 (c)] 5)) (by omega)); have B1 := Lib.hid (grown_below (B0.out.alloc (by have := B0.out.size; omega) (.cells #[.int .u8 (c)] 5)) hg0 (own0.out.alloc (.cells #[.int .u8 (c)] 5)) (by omega)); obtain ⟨⟨c0, c1, c2, c3, c4, c5⟩, f⟩ := row6 r1.out; have own1 := Lib.hid own1)
    | (at_builtin; refine wpList_append_own_at _ rfl (.tmp 47) (.tmp 50) _ rfl (w.heap.size + 1) 5 i0 _ 1 1 Try.underlying27 hi0 hz0 hz1 hz2 rfl (by omega) v1 2 ([.int .u8 221] ++ [.int .u8 (c)]) rfl (own1.out.alloc (.cells #[.int .u8 (d)] 5)) ⟨w1.heap.size, 0, none⟩ 1 1 [.int .u8 (d)] rfl rfl (cells_list_new' w1 [.int .u8 (d)] 5) (by intro u hu; simp at hu; rcases hu with rfl; rfl) (by simp only [maxLen]; omega) (by omega) (by have := hz0'; simp; omega) ?_; intro v2 w2 own2 hg1 hni1 hat1; have hz1' : w.heap.size + 1 ≤ w2.heap.size := Nat.le_trans (by have := hz0'; simp; omega) hg1.size; have r2 := Lib.hid (grown_row (r1.out.alloc (.cells #[.int .u8 (d)] 5)) hg1 (own1.out.alloc (.cells #[.int .u8 (d)] 5)) (by omega)); have B2 := Lib.hid (grown_below (B1.out.alloc (by have := B1.out.size; omega) (.cells #[.int .u8 (d)] 5)) hg1 (own1.out.alloc (.cells #[.int .u8 (d)] 5)) (by omega)); obtain ⟨⟨c0, c1, c2, c3, c4, c5⟩, f⟩ := row6 r2.out; have own2 := Lib.hid own2))
  go_ret
  exact ⟨v2, rfl, own_mono own2.out (by omega), B2.out⟩
set_option maxHeartbeats 4000000 in
theorem rbytes_3_y1 (c d i le sk : Int) (hc : B8 c) (h0 : 0 ≤ i) (h1 : i ≤ 65535) (hnr : nearM 3 c = true) (hs : sizeM 3 c = 1) (w : World) :
    Calls Try.prog 21 #[opV 3 c d i le sk] w fun e w' => ∃ v, e = .returned v ∧ OwnBytes w' w.heap.size v [221, c, d, i % 256] ∧ Below w.heap.size w w' := by
  have hd1 : IntKind.u16.wrap (i.tdiv 256) = i / 256 := by rw [Int.tdiv_eq_ediv_of_nonneg h0, wraps16 _ (by omega) (by omega)]
  have hd2 : i / 256 % 256 = i / 256 := by omega
  have hnn := Lib.hid (drnear_any 3 c hc)
  rw [hnr] at hnn
  have hss := Lib.hid (rsize_any 3 c hc)
  rw [hs] at hss
  obtain ⟨i0, hi0, hz0, hz1, hz2⟩ := info_parts u8_info
  have B0 : Below w.heap.size w ((w.alloc (.cells #[.int .i64 3, .int .u8 c, .int .u8 d, .int .u16 i, .int .i64 le, .int .i64 sk] 30)).alloc (.cells #[.int .u8 221] 5)) := (by repeat (first | exact Below.refl _ _ | assumption | refine bstep ?_ (by assumption) | refine Below.drew ?_ | refine Below.alloc ?_ (by first | (simp; done) | (simp; omega) | omega) _ | refine Below.setCell ?_ (by first | (simp; done) | (simp; omega) | omega) _))
  have r0 := (Row.new w 30 #[.int .i64 3, .int .u8 c, .int .u8 d, .int .u16 i, .int .i64 le, .int .i64 sk]).alloc (.cells #[.int .u8 221] 5)
  have own0 := World.ownsRow_lit (base := w.heap.size + 1) (e := 5) (size := 1) (w.alloc (.cells #[.int .i64 3, .int .u8 c, .int .u8 d, .int .u16 i, .int .i64 le, .int .i64 sk] 30)) #[.int .u8 221] 1 (by simp) (by decide) rfl
  rw [World.size_alloc] at own0
  have tmp0 := cells_list_new' ((w.alloc (.cells #[.int .i64 3, .int .u8 c, .int .u8 d, .int .u16 i, .int .i64 le, .int .i64 sk] 30)).alloc (.cells #[.int .u8 221] 5)) [.int .u8 c] 5
  simp only [World.size_alloc] at tmp0
  have own0 := Lib.hid own0
  have r0 := Lib.hid r0
  have B0 := Lib.hid B0
  go_enter Try.func21, Try.ntmps21
  go_wp2_with (first
    | (go_at_call 14; refine (hnn.out _).mono ?_; rintro e w' ⟨rfl, rfl⟩)
    | (go_at_call 12; refine (hss.out _).mono ?_; rintro e w' ⟨rfl, rfl⟩)
    | (at_builtin; refine wpList_append_own_at _ rfl (.tmp 36) (.tmp 39) _ rfl (w.heap.size + 1) 5 i0 _ 1 1 Try.underlying27 hi0 hz0 hz1 hz2 rfl (by omega) (.slice (some ⟨w.heap.size + 1, 0, none⟩) 1 1) 1 ([.int .u8 221]) rfl (own0.out.alloc (.cells #[.int .u8 (c)] 5)) ⟨w.heap.size + 1 + 1, 0, none⟩ 1 1 [.int .u8 (c)] rfl rfl tmp0 (by intro u hu; simp at hu; rcases hu with rfl; rfl) (by simp only [maxLen]; omega) (by omega) (by simp) ?_; intro v1 w1 own1 hg0 hni0 hat0; have hz0' : w.heap.size + 1 ≤ w1.heap.size := Nat.le_trans (by simp) hg0.size; have r1 := Lib.hid (grown_row (r0.out.alloc (.cells #[.int .u8 (c)] 5)) hg0 (own0.out.alloc (.cells #[.int .u8 (c)] 5)) (by omega)); have B1 := Lib.hid (grown_below (B0.out.alloc (by have := B0.out.size; omega) (.cells #[.int .u8 (c)] 5)) hg0 (own0.out.alloc (.cells #[.int .u8 (c)] 5)) (by omega)); obtain ⟨⟨c0, c1, c2, c3, c4, c5⟩, f⟩ := row6 r1.out; have own1 := Lib.hid own1)
    | (at_builtin; refine wpList_append_own_at _ rfl (.tmp 47) (.tmp 50) _ rfl (w.heap.size + 1) 5 i0 _ 1 1 Try.underlying27 hi0 hz0 hz1 hz2 rfl (by omega) v1 2 ([.int .u8 221] ++ [.int .u8 (c)]) rfl (own1.out.alloc (.cells #[.int .u8 (d)] 5)) ⟨w1.heap.size, 0, none⟩ 1 1 [.int .u8 (d)] rfl rfl (cells_list_new' w1 [.int .u8 (d)] 5) (by intro u hu; simp at hu; rcases hu with rfl; rfl) (by simp only [maxLen]; omega) (by omega) (by have := hz0'; simp; omega) ?_; intro v2 w2 own2 hg1 hni1 hat1; have hz1' : w.heap.size + 1 ≤ w2.heap.size := Nat.le_trans (by have := hz0'; simp; omega) hg1.size; have r2 := Lib.hid (grown_row (r1.out.alloc (.cells #[.int .u8 (d)] 5)) hg1 (own1.out.alloc (.cells #[.int .u8 (d)] 5)) (by omega)); have B2 := Lib.hid (grown_below (B1.out.alloc (by have := B1.out.size; omega) (.cells #[.int .u8 (d)] 5)) hg1 (own1.out.alloc (.cells #[.int .u8 (d)] 5)) (by omega)); obtain ⟨⟨c0, c1, c2, c3, c4, c5⟩, f⟩ := row6 r2.out; have own2 := Lib.hid own2)
    | (at_builtin; refine wpList_append_own_at _ rfl (.tmp 59) (.tmp 64) _ rfl (w.heap.size + 1) 5 i0 _ 1 1 Try.underlying27 hi0 hz0 hz1 hz2 rfl (by omega) v2 3 ([.int .u8 221] ++ [.int .u8 (c)] ++ [.int .u8 (d)]) rfl (own2.out.alloc (.cells #[.int .u8 (i % 256)] 5)) ⟨w2.heap.size, 0, none⟩ 1 1 [.int .u8 (i % 256)] rfl rfl (cells_list_new' w2 [.int .u8 (i % 256)] 5) (by intro u hu; simp at hu; rcases hu with rfl; rfl) (by simp only [maxLen]; omega) (by omega) (by have := hz1'; simp; omega) ?_; intro v3 w3 own3 hg2 hni2 hat2; have hz2' : w.heap.size + 1 ≤ w3.heap.size := Nat.le_trans (by have := hz1'; simp; omega) hg2.size; have r3 := Lib.hid (grown_row (r2.out.alloc (.cells #[.int .u8 (i % 256)] 5)) hg2 (own2.out.alloc (.cells #[.int .u8 (i % 256)] 5)) (by omega)); have B3 := Lib.hid (grown_below (B2.out.alloc (by have := B2.out.size; omega) (.cells #[.int .u8 (i % 256)] 5)) hg2 (own2.out.alloc (.cells #[.int .u8 (i % 256)] 5)) (by omega)); obtain ⟨⟨c0, c1, c2, c3, c4, c5⟩, f⟩ := row6 r3.out; have own3 := Lib.hid own3))
  go_ret
  exact ⟨v3, rfl, own_mono own3.out (by omega), B3.out⟩
set_option maxHeartbeats 4000000 in
theorem rbytes_3_y2 (c d i le sk : Int) (hc : B8 c) (h0 : 0 ≤ i) (h1 : i ≤ 65535) (hnr : nearM 3 c = true) (hs : sizeM 3 c = 2) (w : World) :
    Calls Try.prog 21 #[opV 3 c d i le sk] w fun e w' => ∃ v, e = .returned v ∧ OwnBytes w' w.heap.size v [221, c, d, i % 256, i / 256] ∧ Below w.heap.size w w' := by
  have hd1 : IntKind.u16.wrap (i.tdiv 256) = i / 256 := by rw [Int.tdiv_eq_ediv_of_nonneg h0, wraps16 _ (by omega) (by omega)]
  have hd2 : i / 256 % 256 = i / 256 := by omega
  have hnn := Lib.hid (drnear_any 3 c hc)
  rw [hnr] at hnn
  have hss := Lib.hid (rsize_any 3 c hc)
  rw [hs] at hss
  obtain ⟨i0, hi0, hz0, hz1, hz2⟩ := info_parts u8_info
  have B0 : Below w.heap.size w ((w.alloc (.cells #[.int .i64 3, .int .u8 c, .int .u8 d, .int .u16 i, .int .i64 le, .int .i64 sk] 30)).alloc (.cells #[.int .u8 221] 5)) := (by repeat (first | exact Below.refl _ _ | assumption | refine bstep ?_ (by assumption) | refine Below.drew ?_ | refine Below.alloc ?_ (by first | (simp; done) | (simp; omega) | omega) _ | refine Below.setCell ?_ (by first | (simp; done) | (simp; omega) | omega) _))
  have r0 := (Row.new w 30 #[.int .i64 3, .int .u8 c, .int .u8 d, .int .u16 i, .int .i64 le, .int .i64 sk]).alloc (.cells #[.int .u8 221] 5)
  have own0 := World.ownsRow_lit (base := w.heap.size + 1) (e := 5) (size := 1) (w.alloc (.cells #[.int .i64 3, .int .u8 c, .int .u8 d, .int .u16 i, .int .i64 le, .int .i64 sk] 30)) #[.int .u8 221] 1 (by simp) (by decide) rfl
  rw [World.size_alloc] at own0
  have tmp0 := cells_list_new' ((w.alloc (.cells #[.int .i64 3, .int .u8 c, .int .u8 d, .int .u16 i, .int .i64 le, .int .i64 sk] 30)).alloc (.cells #[.int .u8 221] 5)) [.int .u8 c] 5
  simp only [World.size_alloc] at tmp0
  have own0 := Lib.hid own0
  have r0 := Lib.hid r0
  have B0 := Lib.hid B0
  go_enter Try.func21, Try.ntmps21
  go_wp2_with (first
    | (go_at_call 14; refine (hnn.out _).mono ?_; rintro e w' ⟨rfl, rfl⟩)
    | (go_at_call 12; refine (hss.out _).mono ?_; rintro e w' ⟨rfl, rfl⟩)
    | (at_builtin; refine wpList_append_own_at _ rfl (.tmp 36) (.tmp 39) _ rfl (w.heap.size + 1) 5 i0 _ 1 1 Try.underlying27 hi0 hz0 hz1 hz2 rfl (by omega) (.slice (some ⟨w.heap.size + 1, 0, none⟩) 1 1) 1 ([.int .u8 221]) rfl (own0.out.alloc (.cells #[.int .u8 (c)] 5)) ⟨w.heap.size + 1 + 1, 0, none⟩ 1 1 [.int .u8 (c)] rfl rfl tmp0 (by intro u hu; simp at hu; rcases hu with rfl; rfl) (by simp only [maxLen]; omega) (by omega) (by simp) ?_; intro v1 w1 own1 hg0 hni0 hat0; have hz0' : w.heap.size + 1 ≤ w1.heap.size := Nat.le_trans (by simp) hg0.size; have r1 := Lib.hid (grown_row (r0.out.alloc (.cells #[.int .u8 (c)] 5)) hg0 (own0.out.alloc (.cells #[.int .u8 (c)] 5)) (by omega)); have B1 := Lib.hid (grown_below (B0.out.alloc (by have := B0.out.size; omega) (.cells #[.int .u8 (c)] 5)) hg0 (own0.out.alloc (.cells #[.int .u8 (c)] 5)) (by omega)); obtain ⟨⟨c0, c1, c2, c3, c4, c5⟩, f⟩ := row6 r1.out; have own1 := Lib.hid own1)
    | (at_builtin; refine wpList_append_own_at _ rfl (.tmp 47) (.tmp 50) _ rfl (w.heap.size + 1) 5 i0 _ 1 1 Try.underlying27 hi0 hz0 hz1 hz2 rfl (by omega) v1 2 ([.int .u8 221] ++ [.int .u8 (c)]) rfl (own1.out.alloc (.cells #[.int .u8 (d)] 5)) ⟨w1.heap.size, 0, none⟩ 1 1 [.int .u8 (d)] rfl rfl (cells_list_new' w1 [.int .u8 (d)] 5) (by intro u hu; simp at hu; rcases hu with rfl; rfl) (by simp only [maxLen]; omega) (by omega) (by have := hz0'; simp; omega) ?_; intro v2 w2 own2 hg1 hni1 hat1; have hz1' : w.heap.size + 1 ≤ w2.heap.size := Nat.le_trans (by have := hz0'; simp; omega) hg1.size; have r2 := Lib.hid (grown_row (r1.out.alloc (.cells #[.int .u8 (d)] 5)) hg1 (own1.out.alloc (.cells #[.int .u8 (d)] 5)) (by omega)); have B2 := Lib.hid (grown_below (B1.out.alloc (by have := B1.out.size; omega) (.cells #[.int .u8 (d)] 5)) hg1 (own1.out.alloc (.cells #[.int .u8 (d)] 5)) (by omega)); obtain ⟨⟨c0, c1, c2, c3, c4, c5⟩, f⟩ := row6 r2.out; have own2 := Lib.hid own2)
    | (at_builtin; refine wpList_append_own_at _ rfl (.tmp 59) (.tmp 64) _ rfl (w.heap.size + 1) 5 i0 _ 1 1 Try.underlying27 hi0 hz0 hz1 hz2 rfl (by omega) v2 3 ([.int .u8 221] ++ [.int .u8 (c)] ++ [.int .u8 (d)]) rfl (own2.out.alloc (.cells #[.int .u8 (i % 256)] 5)) ⟨w2.heap.size, 0, none⟩ 1 1 [.int .u8 (i % 256)] rfl rfl (cells_list_new' w2 [.int .u8 (i % 256)] 5) (by intro u hu; simp at hu; rcases hu with rfl; rfl) (by simp only [maxLen]; omega) (by omega) (by have := hz1'; simp; omega) ?_; intro v3 w3 own3 hg2 hni2 hat2; have hz2' : w.heap.size + 1 ≤ w3.heap.size := Nat.le_trans (by have := hz1'; simp; omega) hg2.size; have r3 := Lib.hid (grown_row (r2.out.alloc (.cells #[.int .u8 (i % 256)] 5)) hg2 (own2.out.alloc (.cells #[.int .u8 (i % 256)] 5)) (by omega)); have B3 := Lib.hid (grown_below (B2.out.alloc (by have := B2.out.size; omega) (.cells #[.int .u8 (i % 256)] 5)) hg2 (own2.out.alloc (.cells #[.int .u8 (i % 256)] 5)) (by omega)); obtain ⟨⟨c0, c1, c2, c3, c4, c5⟩, f⟩ := row6 r3.out; have own3 := Lib.hid own3)
    | (at_builtin; refine wpList_append_own_at _ rfl (.tmp 68) (.tmp 73) _ rfl (w.heap.size + 1) 5 i0 _ 1 1 Try.underlying27 hi0 hz0 hz1 hz2 rfl (by omega) v3 4 ([.int .u8 221] ++ [.int .u8 (c)] ++ [.int .u8 (d)] ++ [.int .u8 (i % 256)]) rfl (own3.out.alloc (.cells #[.int .u8 (i / 256)] 5)) ⟨w3.heap.size, 0, none⟩ 1 1 [.int .u8 (i / 256)] rfl rfl (cells_list_new' w3 [.int .u8 (i / 256)] 5) (by intro u hu; simp at hu; rcases hu with rfl; rfl) (by simp only [maxLen]; omega) (by omega) (by have := hz2'; simp; omega) ?_; intro v4 w4 own4 hg3 hni3 hat3; have hz3' : w.heap.size + 1 ≤ w4.heap.size := Nat.le_trans (by have := hz2'; simp; omega) hg3.size; have r4 := Lib.hid (grown_row (r3.out.alloc (.cells #[.int .u8 (i / 256)] 5)) hg3 (own3.out.alloc (.cells #[.int .u8 (i / 256)] 5)) (by omega)); have B4 := Lib.hid (grown_below (B3.out.alloc (by have := B3.out.size; omega) (.cells #[.int .u8 (i / 256)] 5)) hg3 (own3.out.alloc (.cells #[.int .u8 (i / 256)] 5)) (by omega)); obtain ⟨⟨c0, c1, c2, c3, c4, c5⟩, f⟩ := row6 r4.out; have own4 := Lib.hid own4))
  go_ret
  exact ⟨v4, rfl, own_mono own4.out (by omega), B4.out⟩
set_option maxHeartbeats 4000000 in
theorem rbytes_4_n0 (c d i le sk : Int) (hc : B8 c) (h0 : 0 ≤ i) (h1 : i ≤ 65535) (hnr : nearM 4 c = false) (hs : sizeM 4 c = 0) (w : World) :
    Calls Try.prog 21 #[opV 4 c d i le sk] w fun e w' => ∃ v, e = .returned v ∧ OwnBytes w' w.heap.size v [253, c] ∧ Below w.heap.size w w' := by
  have hd1 : IntKind.u16.wrap (i.tdiv 256) = i / 256 := by rw [Int.tdiv_eq_ediv_of_nonneg h0, wraps16 _ (by omega) (by omega)]
  have hd2 : i / 256 % 256 = i / 256 := by omega
  have hnn := Lib.hid (drnear_any 4 c hc)
  rw [hnr] at hnn
  have hss := Lib.hid (rsize_any 4 c hc)
  rw [hs] at hss
  obtain ⟨i0, hi0, hz0, hz1, hz2⟩ := info_parts u8_info
  have B0 : Below w.heap.size w ((w.alloc (.cells #[.int .i64 4, .int .u8 c, .int .u8 d, .int .u16 i, .int .i64 le, .int .i64 sk] 30)).alloc (.cells #[.int .u8 253] 5)) := (by repeat (first | exact Below.refl _ _ | assumption | refine bstep ?_ (by assumption) | refine Below.drew ?_ | refine Below.alloc ?_ (by first | (simp; done) | (simp; omega) | omega) _ | refine Below.setCell ?_ (by first | (simp; done) | (simp; omega) | omega) _))
  have r0 := (Row.new w 30 #[.int .i64 4, .int .u8 c, .int .u8 d, .int .u16 i, .int .i64 le, .int .i64 sk]).alloc (.cells #[.int .u8 253] 5)
  have own0 := World.ownsRow_lit (base := w.heap.size + 1) (e := 5) (size := 1) (w.alloc (.cells #[.int .i64 4, .int .u8 c, .int .u8 d, .int .u16 i, .int .i64 le, .int .i64 sk] 30)) #[.int .u8 253] 1 (by simp) (by decide) rfl
  rw [World.size_alloc] at own0
  have tmp0 := cells_list_new' ((w.alloc (.cells #[.int .i64 4, .int .u8 c, .int .u8 d, .int .u16 i, .int .i64 le, .int .i64 sk] 30)).alloc (.cells #[.int .u8 253] 5)) [.int .u8 c] 5
  simp only [World.size_alloc] at tmp0
  have own0 := Lib.hid own0
  have r0 := Lib.hid r0
  have B0 := Lib.hid B0
  go_enter Try.func21, Try.ntmps21
  go_wp2_with (first
    | (go_at_call 14; refine (hnn.out _).mono ?_; rintro e w' ⟨rfl, rfl⟩)
    | (go_at_call 12; refine (hss.out _).mono ?_; rintro e w' ⟨rfl, rfl⟩)
    | (at_builtin; refine wpList_append_own_at _ rfl (.tmp 36) (.tmp 39) _ rfl (w.heap.size + 1) 5 i0 _ 1 1 Try.underlying27 hi0 hz0 hz1 hz2 rfl (by omega) (.slice (some ⟨w.heap.size + 1, 0, none⟩) 1 1) 1 ([.int .u8 253]) rfl (own0.out.alloc (.cells #[.int .u8 (c)] 5)) ⟨w.heap.size + 1 + 1, 0, none⟩ 1 1 [.int .u8 (c)] rfl rfl tmp0 (by intro u hu; simp at hu; rcases hu with rfl; rfl) (by simp only [maxLen]; omega) (by omega) (by simp) ?_; intro v1 w1 own1 hg0 hni0 hat0; have hz0' : w.heap.size + 1 ≤ w1.heap.size := Nat.le_trans (by simp) hg0.size; have r1 := Lib.hid (grown_row (r0.out.alloc (.cells #[.int .u8 (c)] 5)) hg0 (own0.out.alloc (.cells #[.int .u8 (c)] 5)) (by omega)); have B1 := Lib.hid (grown_below (B0.out.alloc (by have := B0.out.size; omega) (.cells #[.int .u8 (c)] 5)) hg0 (own0.out.alloc (.cells #[.int .u8 (c)] 5)) (by omega)); obtain ⟨⟨c0, c1, c2, c3, c4, c5⟩, f⟩ := row6 r1.out; have own1 := Lib.hid own1))
  go_ret
  exact ⟨v1, rfl, own_mono own1.out (by omega), B1.out⟩
set_option maxHeartbeats 4000000 in
theorem rbytes_4_n1 (c d i le sk : Int) (hc : B8 c) (h0 : 0 ≤ i) (h1 : i ≤ 65535) (hnr : nearM 4 c = false) (hs : sizeM 4 c = 1) (w : World) :
    Calls Try.prog 21 #[opV 4 c d i le sk] w fun e w' => ∃ v, e = .returned v ∧ OwnBytes w' w.heap.size v [253, c, i % 256] ∧ Below w.heap.size w w' := by
  have hd1 : IntKind.u16.wrap (i.tdiv 256) = i / 256 := by rw [Int.tdiv_eq_ediv_of_nonneg h0, wraps16 _ (by omega) (by omega)]
  have hd2 : i / 256 % 256 = i / 256 := by omega
  have hnn := Lib.hid (drnear_any 4 c hc)
  rw [hnr] at hnn
  have hss := Lib.hid (rsize_any 4 c hc)
  rw [hs] at hss
  obtain ⟨i0, hi0, hz0, hz1, hz2⟩ := info_parts u8_info
  have B0 : Below w.heap.size w ((w.alloc (.cells #[.int .i64 4, .int .u8 c, .int .u8 d, .int .u16 i, .int .i64 le, .int .i64 sk] 30)).alloc (.cells #[.int .u8 253] 5)) := (by repeat (first | exact Below.refl _ _ | assumption | refine bstep ?_ (by assumption) | refine Below.drew ?_ | refine Below.alloc ?_ (by first | (simp; done) | (simp; omega) | omega) _ | refine Below.setCell ?_ (by first | (simp; done) | (simp; omega) | omega) _))
  have r0 := (Row.new w 30 #[.int .i64 4, .int .u8 c, .int .u8 d, .int .u16 i, .int .i64 le, .int .i64 sk]).alloc (.cells #[.int .u8 253] 5)
  have own0 := World.ownsRow_lit (base := w.heap.size + 1) (e := 5) (size := 1) (w.alloc (.cells #[.int .i64 4, .int .u8 c, .int .u8 d, .int .u16 i, .int .i64 le, .int .i64 sk] 30)) #[.int .u8 253] 1 (by simp) (by decide) rfl
  rw [World.size_alloc] at own0
  have tmp0 := cells_list_new' ((w.alloc (.cells #[.int .i64 4, .int .u8 c, .int .u8 d, .int .u16 i, .int .i64 le, .int .i64 sk] 30)).alloc (.cells #[.int .u8 253] 5)) [.int .u8 c] 5
  simp only [World.size_alloc] at tmp0
  have own0 := Lib.hid own0
  have r0 := Lib.hid r0
  have B0 := Lib.hid B0
  go_enter Try.func21, Try.ntmps21
  go_wp2_with (first
    | (go_at_call 14; refine (hnn.out _).mono ?_; rintro e w' ⟨rfl, rfl⟩)
    | (go_at_call 12; refine (hss.out _).mono ?_; rintro e w' ⟨rfl, rfl⟩)
    | (at_builtin; refine wpList_append_own_at _ rfl (.tmp 36) (.tmp 39) _ rfl (w.heap.size + 1) 5 i0 _ 1 1 Try.underlying27 hi0 hz0 hz1 hz2 rfl (by omega) (.slice (some ⟨w.heap.size + 1, 0, none⟩) 1 1) 1 ([.int .u8 253]) rfl (own0.out.alloc (.cells #[.int .u8 (c)] 5)) ⟨w.heap.size + 1 + 1, 0, none⟩ 1 1 [.int .u8 (c)] rfl rfl tmp0 (by intro u hu; simp at hu; rcases hu with rfl; rfl) (by simp only [maxLen]; omega) (by omega) (by simp) ?_; intro v1 w1 own1 hg0 hni0 hat0; have hz0' : w.heap.size + 1 ≤ w1.heap.size := Nat.le_trans (by simp) hg0.size; have r1 := Lib.hid (grown_row (r0.out.alloc (.cells #[.int .u8 (c)] 5)) hg0 (own0.out.alloc (.cells #[.int .u8 (c)] 5)) (by omega)); have B1 := Lib.hid (grown_below (B0.out.alloc (by have := B0.out.size; omega) (.cells #[.int .u8 (c)] 5)) hg0 (own0.out.alloc (.cells #[.int .u8 (c)] 5)) (by omega)); obtain ⟨⟨c0, c1, c2, c3, c4, c5⟩, f⟩ := row6 r1.out; have own1 := Lib.hid own1)
    | (at_builtin; refine wpList_append_own_at _ rfl (.tmp 59) (.tmp 64) _ rfl (w.heap.size + 1) 5 i0 _ 1 1 Try.underlying27 hi0 hz0 hz1 hz2 rfl (by omega) v1 2 ([.int .u8 253] ++ [.int .u8 (c)]) rfl (own1.out.alloc (.cells #[.int .u8 (i % 256)] 5)) ⟨w1.heap.size, 0, none⟩ 1 1 [.int .u8 (i % 256)] rfl rfl (cells_list_new' w1 [.int .u8 (i % 256)] 5) (by intro u hu; simp at hu; rcases hu with rfl; rfl) (by simp only [maxLen]; omega) (by omega) (by have := hz0'; simp; omega) ?_; intro v2 w2 own2 hg1 hni1 hat1; have hz1' : w.heap.size + 1 ≤ w2.heap.size := Nat.le_trans (by have := hz0'; simp; omega) hg1.size; have r2 := Lib.hid (grown_row (r1.out.alloc (.cells #[.int .u8 (i % 256)] 5)) hg1 (own1.out.alloc (.cells #[.int .u8 (i % 256)] 5)) (by omega)); have B2 := Lib.hid (grown_below (B1.out.alloc (by have := B1.out.size; omega) (.cells #[.int .u8 (i % 256)] 5)) hg1 (own1.out.alloc (.cells #[.int .u8 (i % 256)] 5)) (by omega)); obtain ⟨⟨c0, c1, c2, c3, c4, c5⟩, f⟩ := row6 r2.out; have own2 := Lib.hid own2))
  go_ret
  exact ⟨v2, rfl, own_mono own2.out (by omega), B2.out⟩
set_option maxHeartbeats 4000000 in
theorem rbytes_4_n2 (c d i le sk : Int) (hc : B8 c) (h0 : 0 ≤ i) (h1 : i ≤ 65535) (hnr : nearM 4 c = false) (hs : sizeM 4 c = 2) (w : World) :
    Calls Try.prog 21 #[opV 4 c d i le sk] w fun e w' => ∃ v, e = .returned v ∧ OwnBytes w' w.heap.size v [253, c, i % 256, i / 256] ∧ Below w.heap.size w w' := by
  have hd1 : IntKind.u16.wrap (i.tdiv 256) = i / 256 := by rw [Int.tdiv_eq_ediv_of_nonneg h0, wraps16 _ (by omega) (by omega)]
  have hd2 : i / 256 % 256 = i / 256 := by omega
  have hnn := Lib.hid (drnear_any 4 c hc)
  rw [hnr] at hnn
  have hss := Lib.hid (rsize_any 4 c hc)
  rw [hs] at hss
  obtain ⟨i0, hi0, hz0, hz1, hz2⟩ := info_parts u8_info
  have B0 : Below w.heap.size w ((w.alloc (.cells #[.int .i64 4, .int .u8 c, .int .u8 d, .int .u16 i, .int .i64 le, .int .i64 sk] 30)).alloc (.cells #[.int .u8 253] 5)) := (by repeat (first | exact Below.refl _ _ | assumption | refine bstep ?_ (by assumption) | refine Below.drew ?_ | refine Below.alloc ?_ (by first | (simp; done) | (simp; omega) | omega) _ | refine Below.setCell ?_ (by first | (simp; done) | (simp; omega) | omega) _))
  have r0 := (Row.new w 30 #[.int .i64 4, .int .u8 c, .int .u8 d, .int .u16 i, .int .i64 le, .int .i64 sk]).alloc (.cells #[.int .u8 253] 5)
  have own0 := World.ownsRow_lit (base := w.heap.size + 1) (e := 5) (size := 1) (w.alloc (.cells #[.int .i64 4, .int .u8 c, .int .u8 d, .int .u16 i, .int .i64 le, .int .i64 sk] 30)) #[.int .u8 253] 1 (by simp) (by decide) rfl
  rw [World.size_alloc] at own0
  have tmp0 := cells_list_new' ((w.alloc (.cells #[.int .i64 4, .int .u8 c, .int .u8 d, .int .u16 i, .int .i64 le, .int .i64 sk] 30)).alloc (.cells #[.int .u8 253] 5)) [.int .u8 c] 5
  simp only [World.size_alloc] at tmp0
  have own0 := Lib.hid own0
  have r0 := Lib.hid r0
  have B0 := Lib.hid B0
  go_enter Try.func21, Try.ntmps21
  go_wp2_with (first
    | (go_at_call 14; refine (hnn.out _).mono ?_; rintro e w' ⟨rfl, rfl⟩)
    | (go_at_call 12; refine (hss.out _).mono ?_; rintro e w' ⟨rfl, rfl⟩)
    | (at_builtin; refine wpList_append_own_at _ rfl (.tmp 36) (.tmp 39) _ rfl (w.heap.size + 1) 5 i0 _ 1 1 Try.underlying27 hi0 hz0 hz1 hz2 rfl (by omega) (.slice (some ⟨w.heap.size + 1, 0, none⟩) 1 1) 1 ([.int .u8 253]) rfl (own0.out.alloc (.cells #[.int .u8 (c)] 5)) ⟨w.heap.size + 1 + 1, 0, none⟩ 1 1 [.int .u8 (c)] rfl rfl tmp0 (by intro u hu; simp at hu; rcases hu with rfl; rfl) (by simp only [maxLen]; omega) (by omega) (by simp) ?_; intro v1 w1 own1 hg0 hni0 hat0; have hz0' : w.heap.size + 1 ≤ w1.heap.size := Nat.le_trans (by simp) hg0.size; have r1 := Lib.hid (grown_row (r0.out.alloc (.cells #[.int .u8 (c)] 5)) hg0 (own0.out.alloc (.cells #[.int .u8 (c)] 5)) (by omega)); have B1 := Lib.hid (grown_below (B0.out.alloc (by have := B0.out.size; omega) (.cells #[.int .u8 (c)] 5)) hg0 (own0.out.alloc (.cells #[.int .u8 (c)] 5)) (by omega)); obtain ⟨⟨c0, c1, c2, c3, c4, c5⟩, f⟩ := row6 r1.out; have own1 := Lib.hid own1)
    | (at_builtin; refine wpList_append_own_at _ rfl (.tmp 59) (.tmp 64) _ rfl (w.heap.size + 1) 5 i0 _ 1 1 Try.underlying27 hi0 hz0 hz1 hz2 rfl (by omega) v1 2 ([.int .u8 253] ++ [.int .u8 (c)]) rfl (own1.out.alloc (.cells #[.int .u8 (i % 256)] 5)) ⟨w1.heap.size, 0, none⟩ 1 1 [.int .u8 (i % 256)] rfl rfl (cells_list_new' w1 [.int .u8 (i % 256)] 5) (by intro u hu; simp at hu; rcases hu with rfl; rfl) (by simp only [maxLen]; omega) (by omega) (by have := hz0'; simp; omega) ?_; intro v2 w2 own2 hg1 hni1 hat1; have hz1' : w.heap.size + 1 ≤ w2.heap.size := Nat.le_trans (by have := hz0'; simp; omega) hg1.size; have r2 := Lib.hid (grown_row (r1.out.alloc (.cells #[.int .u8 (i % 256)] 5)) hg1 (own1.out.alloc (.cells #[.int .u8 (i % 256)] 5)) (by omega)); have B2 := Lib.hid (grown_below (B1.out.alloc (by have := B1.out.size; omega) (.cells #[.int .u8 (i % 256)] 5)) hg1 (own1.out.alloc (.cells #[.int .u8 (i % 256)] 5)) (by omega)); obtain ⟨⟨c0, c1, c2, c3, c4, c5⟩, f⟩ := row6 r2.out; have own2 := Lib.hid own2)
    | (at_builtin; refine wpList_append_own_at _ rfl (.tmp 68) (.tmp 73) _ rfl (w.heap.size + 1) 5 i0 _ 1 1 Try.underlying27 hi0 hz0 hz1 hz2 rfl (by omega) v2 3 ([.int .u8 253] ++ [.int .u8 (c)] ++ [.int .u8 (i % 256)]) rfl (own2.out.alloc (.cells #[.int .u8 (i / 256)] 5)) ⟨w2.heap.size, 0, none⟩ 1 1 [.int .u8 (i / 256)] rfl rfl (cells_list_new' w2 [.int .u8 (i / 256)] 5) (by intro u hu; simp at hu; rcases hu with rfl; rfl) (by simp only [maxLen]; omega) (by omega) (by have := hz1'; simp; omega) ?_; intro v3 w3 own3 hg2 hni2 hat2; have hz2' : w.heap.size + 1 ≤ w3.heap.size := Nat.le_trans (by have := hz1'; simp; omega) hg2.size; have r3 := Lib.hid (grown_row (r2.out.alloc (.cells #[.int .u8 (i / 256)] 5)) hg2 (own2.out.alloc (.cells #[.int .u8 (i / 256)] 5)) (by omega)); have B3 := Lib.hid (grown_below (B2.out.alloc (by have := B2.out.size; omega) (.cells #[.int .u8 (i / 256)] 5)) hg2 (own2.out.alloc (.cells #[.int .u8 (i / 256)] 5)) (by omega)); obtain ⟨⟨c0, c1, c2, c3, c4, c5⟩, f⟩ := row6 r3.out; have own3 := Lib.hid own3))
  go_ret
  exact ⟨v3, rfl, own_mono own3.out (by omega), B3.out⟩
set_option maxHeartbeats 4000000 in
theorem rbytes_4_y0 (c d i le sk : Int) (hc : B8 c) (h0 : 0 ≤ i) (h1 : i ≤ 65535) (hnr : nearM 4 c = true) (hs : sizeM 4 c = 0) (w : World) :
    Calls Try.prog 21 #[opV 4 c d i le sk] w fun e w' => ∃ v, e = .returned v ∧ OwnBytes w' w.heap.size v [253, c, d] ∧ Below w.heap.size w w' := by
  have hd1 : IntKind.u16.wrap (i.tdiv 256) = i / 256 := by rw [Int.tdiv_eq_ediv_of_nonneg h0, wraps16 _ (by omega) (by omega)]
  have hd2 : i / 256 % 256 = i / 256 := by omega
  have hnn := Lib.hid (drnear_any 4 c hc)
  rw [hnr] at hnn
  have hss := Lib.hid (rsize_any 4 c hc)
  rw [hs] at hss
  obtain ⟨i0, hi0, hz0, hz1, hz2⟩ := info_parts u8_info
  have B0 : Below w.heap.size w ((w.alloc (.cells #[.int .i64 4, .int .u8 c, .int .u8 d, .int .u16 i, .int .i64 le, .int .i64 sk] 30)).alloc (.cells #[.int .u8 253] 5)) := (by repeat (first | exact Below.refl _ _ | assumption | refine bstep ?_ (by assumption) | refine Below.drew ?_ | refine Below.alloc ?_ (by first | (simp; done) | (simp; omega) | omega) _ | refine Below.setCell ?_ (by first | (simp; done) | (simp; omega) | omega) _))
  have r0 := (Row.new w 30 #[.int .i64 4, .int .u8 c, .int .u8 d, .int .u16 i, .int .i64 le, .int .i64 sk]).alloc (.cells #[.int .u8 253] 5)
  have own0 := World.ownsRow_lit (base := w.heap.size + 1) (e := 5) (size := 1) (w.alloc (.cells #[.int .i64 4, .int .u8 c, .int .u8 d, .int .u16 i, .int .i64 le, .int .i64 sk] 30)) #[.int .u8 253] 1 (by simp) (by decide) rfl
  rw [World.size_alloc] at own0
  have tmp0 := cells_list_new' ((w.alloc (.cells #[.int .i64 4, .int .u8 c, .int .u8 d, .int .u16 i, .int .i64 le, .int .i64 sk] 30)).alloc (.cells #[.int .u8 253] 5)) [.int .u8 c] 5
  simp only [World.size_alloc] at tmp0
  have own0 := Lib.hid own0
  have r0 := Lib.hid r0
  have B0 := Lib.hid B0
  go_enter Try.func21, Try.ntmps21
  go_wp2_with (first
    | (go_at_call 14; refine (hnn.out _).mono ?_; rintro e w' ⟨rfl, rfl⟩)
    | (go_at_call 12; refine (hss.out _).mono ?_; rintro e w' ⟨rfl, rfl⟩)
    | (at_builtin; refine wpList_append_own_at _ rfl (.tmp 36) (.tmp 39) _ rfl (w.heap.size + 1) 5 i0 _ 1 1 Try.underlying27 hi0 hz0 hz1 hz2 rfl (by omega) (.slice (some ⟨w.heap.size + 1, 0, none⟩) 1 1) 1 ([.int .u8 253]) rfl (own0.out.alloc (.cells #[.int .u8 (c)] 5)) ⟨w.heap.size + 1 + 1, 0, none⟩ 1 1 [.int .u8 (c)] rfl rfl tmp0 (by intro u hu; simp at hu; rcases hu with rfl; rfl) (by simp only [maxLen]; omega) (by omega) (by simp) ?_; intro v1 w1 own1 hg0 hni0 hat0; have hz0' : w.heap.size + 1 ≤ w1.heap.size := Nat.le_trans (by simp) hg0.size; have r1 := Lib.hid (grown_row (r0.out.alloc (.cells #[.int .u8 (c)] 5)) hg0 (own0.out.alloc (.cells #[.int .u8 (c)] 5)) (by omega)); have B1 := Lib.hid (grown_below (B0.out.alloc (by have := B0.out.size; omega) (.cells #[.int .u8 (c)] 5)) hg0 (own0.out.alloc (.cells #[.int .u8 (c)] 5)) (by omega)); obtain ⟨⟨c0, c1, c2, c3, c4, c5⟩, f⟩ := row6 r1.out; have own1 := Lib.hid own1)
    | (at_builtin; refine wpList_append_own_at _ rfl (.tmp 47) (.tmp 50) _ rfl (w.heap.size + 1) 5 i0 _ 1 1 Try.underlying27 hi0 hz0 hz1 hz2 rfl (by omega) v1 2 ([.int .u8 253] ++ [.int .u8 (c)]) rfl (own1.out.alloc (.cells #[.int .u8 (d)] 5)) ⟨w1.heap.size, 0, none⟩ 1 1 [.int .u8 (d)] rfl rfl (cells_list_new' w1 [.int .u8 (d)] 5) (by intro u hu; simp at hu; rcases hu with rfl; rfl) (by simp only [maxLen]; omega) (by omega) (by have := hz0'; simp; omega) ?_; intro v2 w2 own2 hg1 hni1 hat1; have hz1' : w.heap.size + 1 ≤ w2.heap.size := Nat.le_trans (by have := hz0'; simp; omega) hg1.size; have r2 := Lib.hid (grown_row (r1.out.alloc (.cells #[.int .u8 (d)] 5)) hg1 (own1.out.alloc (.cells #[.int .u8 (d)] 5)) (by omega)); have B2 := Lib.hid (grown_below (B1.out.alloc (by have := B1.out.size; omega) (.cells #[.int .u8 (d)] 5)) hg1 (own1.out.alloc (.cells #[.int .u8 (d)] 5)) (by omega)); obtain ⟨⟨c0, c1, c2, c3, c4, c5⟩, f⟩ := row6 r2.out; have own2 := Lib.hid own2))
  go_ret
  exact ⟨v2, rfl, own_mono own2.out (by omega), B2.out⟩
set_option maxHeartbeats 4000000 in
theorem rbytes_4_y1 (c d i le sk : Int) (hc : B8 c) (h0 : 0 ≤ i) (h1 : i ≤ 65535) (hnr : nearM 4 c = true) (hs : sizeM 4 c = 1) (w : World) :
    Calls Try.prog 21 #[opV 4 c d i le sk] w fun e w' => ∃ v, e = .returned v ∧ OwnBytes w' w.heap.size v [253, c, d, i % 256] ∧ Below w.heap.size w w' := by
  have hd1 : IntKind.u16.wrap (i.tdiv 256) = i / 256 := by rw [Int.tdiv_eq_ediv_of_nonneg h0, wraps16 _ (by omega) (by omega)]
  have hd2 : i / 256 % 256 = i / 256 := by omega
  have hnn := Lib.hid (drnear_any 4 c hc)
  rw [hnr] at hnn
  have hss := Lib.hid (rsize_any 4 c hc)
  rw [hs] at hss
  obtain ⟨i0, hi0, hz0, hz1, hz2⟩ := info_parts u8_info
  have B0 : Below w.heap.size w ((w.alloc (.cells #[.int .i64 4, .int .u8 c, .int .u8 d, .int .u16 i, .int .i64 le, .int .i64 sk] 30)).alloc (.cells #[.int .u8 253] 5)) := (by repeat (first | exact Below.refl _ _ | assumption | refine bstep ?_ (by assumption) | refine Below.drew ?_ | refine Below.alloc ?_ (by first | (simp; done) | (simp; omega) | omega) _ | refine Below.setCell ?_ (by first | (simp; done) | (simp; omega) | omega) _))
  have r0 := (Row.new w 30 #[.int .i64 4, .int .u8 c, .int .u8 d, .int .u16 i, .int .i64 le, .int .i64 sk]).alloc (.cells #[.int .u8 253] 5)
  have own0 := World.ownsRow_lit (base := w.heap.size + 1) (e := 5) (size := 1) (w.alloc (.cells #[.int .i64 4, .int .u8 c, .int .u8 d, .int .u16 i, .int .i64 le, .int .i64 sk] 30)) #[.int .u8 253] 1 (by simp) (by decide) rfl
  rw [World.size_alloc] at own0
  have tmp0 := cells_list_new' ((w.alloc (.cells #[.int .i64 4, .int .u8 c, .int .u8 d, .int .u16 i, .int .i64 le, .int .i64 sk] 30)).alloc (.cells #[.int .u8 253] 5)) [.int .u8 c] 5
  simp only [World.size_alloc] at tmp0
  have own0 := Lib.hid own0
  have r0 := Lib.hid r0
  have B0 := Lib.hid B0
  go_enter Try.func21, Try.ntmps21
  go_wp2_with (first
    | (go_at_call 14; refine (hnn.out _).mono ?_; rintro e w' ⟨rfl, rfl⟩)
    | (go_at_call 12; refine (hss.out _).mono ?_; rintro e w' ⟨rfl, rfl⟩)
    | (at_builtin; refine wpList_append_own_at _ rfl (.tmp 36) (.tmp 39) _ rfl (w.heap.size + 1) 5 i0 _ 1 1 Try.underlying27 hi0 hz0 hz1 hz2 rfl (by omega) (.slice (some ⟨w.heap.size + 1, 0, none⟩) 1 1) 1 ([.int .u8 253]) rfl (own0.out.alloc (.cells #[.int .u8 (c)] 5)) ⟨w.heap.size + 1 + 1, 0, none⟩ 1 1 [.int .u8 (c)] rfl rfl tmp0 (by intro u hu; simp at hu; rcases hu with rfl; rfl) (by simp only [maxLen]; omega) (by omega) (by simp) ?_; intro v1 w1 own1 hg0 hni0 hat0; have hz0' : w.heap.size + 1 ≤ w1.heap.size := Nat.le_trans (by simp) hg0.size; have r1 := Lib.hid (grown_row (r0.out.alloc (.cells #[.int .u8 (c)] 5)) hg0 (own0.out.alloc (.cells #[.int .u8 (c)] 5)) (by omega)); have B1 := Lib.hid (grown_below (B0.out.alloc (by have := B0.out.size; omega) (.cells #[.int .u8 (c)] 5)) hg0 (own0.out.alloc (.cells #[.int .u8 (c)] 5)) (by omega)); obtain ⟨⟨c0, c1, c2, c3, c4, c5⟩, f⟩ := row6 r1.out; have own1 := Lib.hid own1)
    | (at_builtin; refine wpList_append_own_at _ rfl (.tmp 47) (.tmp 50) _ rfl (w.heap.size + 1) 5 i0 _ 1 1 Try.underlying27 hi0 hz0 hz1 hz2 rfl (by omega) v1 2 ([.int .u8 253] ++ [.int .u8 (c)]) rfl (own1.out.alloc (.cells #[.int .u8 (d)] 5)) ⟨w1.heap.size, 0, none⟩ 1 1 [.int .u8 (d)] rfl rfl (cells_list_new' w1 [.int .u8 (d)] 5) (by intro u hu; simp at hu; rcases hu with rfl; rfl) (by simp only [maxLen]; omega) (by omega) (by have := hz0'; simp; omega) ?_; intro v2 w2 own2 hg1 hni1 hat1; have hz1' : w.heap.size + 1 ≤ w2.heap.size := Nat.le_trans (by have := hz0'; simp; omega) hg1.size; have r2 := Lib.hid (grown_row (r1.out.alloc (.cells #[.int .u8 (d)] 5)) hg1 (own1.out.alloc (.cells #[.int .u8 (d)] 5)) (by omega)); have B2 := Lib.hid (grown_below (B1.out.alloc (by have := B1.out.size; omega) (.cells #[.int .u8 (d)] 5)) hg1 (own1.out.alloc (.cells #[.int .u8 (d)] 5)) (by omega)); obtain ⟨⟨c0, c1, c2, c3, c4, c5⟩, f⟩ := row6 r2.out; have own2 := Lib.hid own2)
    | (at_builtin; refine wpList_append_own_at _ rfl (.tmp 59) (.tmp 64) _ rfl (w.heap.size + 1) 5 i0 _ 1 1 Try.underlying27 hi0 hz0 hz1 hz2 rfl (by omega) v2 3 ([.int .u8 253] ++ [.int .u8 (c)] ++ [.int .u8 (d)]) rfl (own2.out.alloc (.cells #[.int .u8 (i % 256)] 5)) ⟨w2.heap.size, 0, none⟩ 1 1 [.int .u8 (i % 256)] rfl rfl (cells_list_new' w2 [.int .u8 (i % 256)] 5) (by intro u hu; simp at hu; rcases hu with rfl; rfl) (by simp only [maxLen]; omega) (by omega) (by have := hz1'; simp; omega) ?_; intro v3 w3 own3 hg2 hni2 hat2; have hz2' : w.heap.size + 1 ≤ w3.heap.size := Nat.le_trans (by have := hz1'; simp; omega) hg2.size; have r3 := Lib.hid (grown_row (r2.out.alloc (.cells #[.int .u8 (i % 256)] 5)) hg2 (own2.out.alloc (.cells #[.int .u8 (i % 256)] 5)) (by omega)); have B3 := Lib.hid (grown_below (B2.out.alloc (by have := B2.out.size; omega) (.cells #[.int .u8 (i % 256)] 5)) hg2 (own2.out.alloc (.cells #[.int .u8 (i % 256)] 5)) (by omega)); obtain ⟨⟨c0, c1, c2, c3, c4, c5⟩, f⟩ := row6 r3.out; have own3 := Lib.hid own3))
  go_ret
  exact ⟨v3, rfl, own_mono own3.out (by omega), B3.out⟩
set_option maxHeartbeats 4000000 in
theorem rbytes_4_y2 (c d i le sk : Int) (hc : B8 c) (h0 : 0 ≤ i) (h1 : i ≤ 65535) (hnr : nearM 4 c = true) (hs : sizeM 4 c = 2) (w : World) :
    Calls Try.prog 21 #[opV 4 c d i le sk] w fun e w' => ∃ v, e = .returned v ∧ OwnBytes w' w.heap.size v [253, c, d, i % 256, i / 256] ∧ Below w.heap.size w w' := by
  have hd1 : IntKind.u16.wrap (i.tdiv 256) = i / 256 := by rw [Int.tdiv_eq_ediv_of_nonneg h0, wraps16 _ (by omega) (by omega)]
  have hd2 : i / 256 % 256 = i / 256 := by omega
  have hnn := Lib.hid (drnear_any 4 c hc)
  rw [hnr] at hnn
  have hss := Lib.hid (rsize_any 4 c hc)
  rw [hs] at hss
  obtain ⟨i0, hi0, hz0, hz1, hz2⟩ := info_parts u8_info
  have B0 : Below w.heap.size w ((w.alloc (.cells #[.int .i64 4, .int .u8 c, .int .u8 d, .int .u16 i, .int .i64 le, .int .i64 sk] 30)).alloc (.cells #[.int .u8 253] 5)) := (by repeat (first | exact Below.refl _ _ | assumption | refine bstep ?_ (by assumption) | refine Below.drew ?_ | refine Below.alloc ?_ (by first | (simp; done) | (simp; omega) | omega) _ | refine Below.setCell ?_ (by first | (simp; done) | (simp; omega) | omega) _))
  have r0 := (Row.new w 30 #[.int .i64 4, .int .u8 c, .int .u8 d, .int .u16 i, .int .i64 le, .int .i64 sk]).alloc (.cells #[.int .u8 253] 5)
  have own0 := World.ownsRow_lit (base := w.heap.size + 1) (e := 5) (size := 1) (w.alloc (.cells #[.int .i64 4, .int .u8 c, .int .u8 d, .int .u16 i, .int .i64 le, .int .i64 sk] 30)) #[.int .u8 253] 1 (by simp) (by decide) rfl
  rw [World.size_alloc] at own0
  have tmp0 := cells_list_new' ((w.alloc (.cells #[.int .i64 4, .int .u8 c, .int .u8 d, .int .u16 i, .int .i64 le, .int .i64 sk] 30)).alloc (.cells #[.int .u8 253] 5)) [.int .u8 c] 5
  simp only [World.size_alloc] at tmp0
  have own0 := Lib.hid own0
  have r0 := Lib.hid r0
  have B0 := Lib.hid B0
  go_enter Try.func21, Try.ntmps21
  go_wp2_with (first
    | (go_at_call 14; refine (hnn.out _).mono ?_; rintro e w' ⟨rfl, rfl⟩)
    | (go_at_call 12; refine (hss.out _).mono ?_; rintro e w' ⟨rfl, rfl⟩)
    | (at_builtin; refine wpList_append_own_at _ rfl (.tmp 36) (.tmp 39) _ rfl (w.heap.size + 1) 5 i0 _ 1 1 Try.underlying27 hi0 hz0 hz1 hz2 rfl (by omega) (.slice (some ⟨w.heap.size + 1, 0, none⟩) 1 1) 1 ([.int .u8 253]) rfl (own0.out.alloc (.cells #[.int .u8 (c)] 5)) ⟨w.heap.size + 1 + 1, 0, none⟩ 1 1 [.int .u8 (c)] rfl rfl tmp0 (by intro u hu; simp at hu; rcases hu with rfl; rfl) (by simp only [maxLen]; omega) (by omega) (by simp) ?_; intro v1 w1 own1 hg0 hni0 hat0; have hz0' : w.heap.size + 1 ≤ w1.heap.size := Nat.le_trans (by simp) hg0.size; have r1 := Lib.hid (grown_row (r0.out.alloc (.cells #[.int .u8 (c)] 5)) hg0 (own0.out.alloc (.cells #[.int .u8 (c)] 5)) (by omega)); have B1 := Lib.hid (grown_below (B0.out.alloc (by have := B0.out.size; omega) (.cells #[.int .u8 (c)] 5)) hg0 (own0.out.alloc (.cells #[.int .u8 (c)] 5)) (by omega)); obtain ⟨⟨c0, c1, c2, c3, c4, c5⟩, f⟩ := row6 r1.out; have own1 := Lib.hid own1)
    | (at_builtin; refine wpList_append_own_at _ rfl (.tmp 47) (.tmp 50) _ rfl (w.heap.size + 1) 5 i0 _ 1 1 Try.underlying27 hi0 hz0 hz1 hz2 rfl (by omega) v1 2 ([.int .u8 253] ++ [.int .u8 (c)]) rfl (own1.out.alloc (.cells #[.int .u8 (d)] 5)) ⟨w1.heap.size, 0, none⟩ 1 1 [.int .u8 (d)] rfl rfl (cells_list_new' w1 [.int .u8 (d)] 5) (by intro u hu; simp at hu; rcases hu with rfl; rfl) (by simp only [maxLen]; omega) (by omega) (by have := hz0'; simp; omega) ?_; intro v2 w2 own2 hg1 hni1 hat1; have hz1' : w.heap.size + 1 ≤ w2.heap.size := Nat.le_trans (by have := hz0'; simp; omega) hg1.size; have r2 := Lib.hid (grown_row (r1.out.alloc (.cells #[.int .u8 (d)] 5)) hg1 (own1.out.alloc (.cells #[.int .u8 (d)] 5)) (by omega)); have B2 := Lib.hid (grown_below (B1.out.alloc (by have := B1.out.size; omega) (.cells #[.int .u8 (d)] 5)) hg1 (own1.out.alloc (.cells #[.int .u8 (d)] 5)) (by omega)); obtain ⟨⟨c0, c1, c2, c3, c4, c5⟩, f⟩ := row6 r2.out; have own2 := Lib.hid own2)
    | (at_builtin; refine wpList_append_own_at _ rfl (.tmp 59) (.tmp 64) _ rfl (w.heap.size + 1) 5 i0 _ 1 1 Try.underlying27 hi0 hz0 hz1 hz2 rfl (by omega) v2 3 ([.int .u8 253] ++ [.int .u8 (c)] ++ [.int .u8 (d)]) rfl (own2.out.alloc (.cells #[.int .u8 (i % 256)] 5)) ⟨w2.heap.size, 0, none⟩ 1 1 [.int .u8 (i % 256)] rfl rfl (cells_list_new' w2 [.int .u8 (i % 256)] 5) (by intro u hu; simp at hu; rcases hu with rfl; rfl) (by simp only [maxLen]; omega) (by omega) (by have := hz1'; simp; omega) ?_; intro v3 w3 own3 hg2 hni2 hat2; have hz2' : w.heap.size + 1 ≤ w3.heap.size := Nat.le_trans (by have := hz1'; simp; omega) hg2.size; have r3 := Lib.hid (grown_row (r2.out.alloc (.cells #[.int .u8 (i % 256)] 5)) hg2 (own2.out.alloc (.cells #[.int .u8 (i % 256)] 5)) (by omega)); have B3 := Lib.hid (grown_below (B2.out.alloc (by have := B2.out.size; omega) (.cells #[.int .u8 (i % 256)] 5)) hg2 (own2.out.alloc (.cells #[.int .u8 (i % 256)] 5)) (by omega)); obtain ⟨⟨c0, c1, c2, c3, c4, c5⟩, f⟩ := row6 r3.out; have own3 := Lib.hid own3)
    | (at_builtin; refine wpList_append_own_at _ rfl (.tmp 68) (.tmp 73) _ rfl (w.heap.size + 1) 5 i0 _ 1 1 Try.underlying27 hi0 hz0 hz1 hz2 rfl (by omega) v3 4 ([.int .u8 253] ++ [.int .u8 (c)] ++ [.int .u8 (d)] ++ [.int .u8 (i % 256)]) rfl (own3.out.alloc (.cells #[.int .u8 (i / 256)] 5)) ⟨w3.heap.size, 0, none⟩ 1 1 [.int .u8 (i / 256)] rfl rfl (cells_list_new' w3 [.int .u8 (i / 256)] 5) (by intro u hu; simp at hu; rcases hu with rfl; rfl) (by simp only [maxLen]; omega) (by omega) (by have := hz2'; simp; omega) ?_; intro v4 w4 own4 hg3 hni3 hat3; have hz3' : w.heap.size + 1 ≤ w4.heap.size := Nat.le_trans (by have := hz2'; simp; omega) hg3.size; have r4 := Lib.hid (grown_row (r3.out.alloc (.cells #[.int .u8 (i / 256)] 5)) hg3 (own3.out.alloc (.cells #[.int .u8 (i / 256)] 5)) (by omega)); have B4 := Lib.hid (grown_below (B3.out.alloc (by have := B3.out.size; omega) (.cells #[.int .u8 (i / 256)] 5)) hg3 (own3.out.alloc (.cells #[.int .u8 (i / 256)] 5)) (by omega)); obtain ⟨⟨c0, c1, c2, c3, c4, c5⟩, f⟩ := row6 r4.out; have own4 := Lib.hid own4))
  go_ret
  exact ⟨v4, rfl, own_mono own4.out (by omega), B4.out⟩
theorem near_plain (p c : Int) (h : p = 0 ∨ p = 1 ∨ p = 2) : nearM p c = false := by
  rcases h with rfl | rfl | rfl <;> rfl
theorem ahead_small (p : Int) (h : 0 ≤ p ∧ p ≤ 4) : aheadM p = false := by
  unfold aheadM
  have h5 : (p == 5) = false := by simp; omega
  have h6 : (p == 6) = false := by simp; omega
  rw [h5, h6]; rfl
theorem size_two (c : Int) : sizeM 2 c = 0 ∨ sizeM 2 c = 2 := by
  show sizeE c = 0 ∨ sizeE c = 2
  unfold sizeE
  split
  · exact .inr rfl
  · exact .inl rfl
theorem bytesL_of (p c d i : Int) (hp : ¬ (p < 0 ∨ 6 < p)) (n : Int) (hs : sizeM p c = n) (near : Bool) (ha : aheadM p = false) (hn : nearM p c = near) : bytesL p c d i = preL p ++ (if near then [c, d] else [c]) ++ immL n.toNat i := by
  unfold bytesL midL
  rw [if_neg hp, hs, ha, hn]
  rfl
set_option maxHeartbeats 1000000 in
theorem rbytes_any (p c d i le sk : Int) (hc : B8 c) (hd : B8 d) (h0 : 0 ≤ i) (h1 : i ≤ 65535) (w : World) :
    Calls Try.prog 21 #[opV p c d i le sk] w fun e w' => ∃ v, e = .returned v ∧ OwnBytes w' w.heap.size v (bytesL p c d i) ∧ Below w.heap.size w w' := by
  by_cases hp : p < 0 ∨ 6 < p
  · refine (rbytes_out p c d i le sk hp w).mono ?_
    rintro e w' ⟨rfl, hb⟩
    refine ⟨_, rfl, ?_, hb⟩
    unfold bytesL
    rw [if_pos hp]
    exact World.ownsRow_nil _ _ _ _
  obtain rfl | rfl | rfl | rfl | rfl | rfl | rfl : p = 0 ∨ p = 1 ∨ p = 2 ∨ p = 3 ∨ p = 4 ∨ p = 5 ∨ p = 6 := by omega
  · rcases sizeM_cases 0 c with hs | hs | hs
    · rw [bytesL_of 0 c d i hp 0 hs false rfl rfl]; exact rbytes_0_n0 c d i le sk hc h0 h1 rfl hs w
    · rw [bytesL_of 0 c d i hp 1 hs false rfl rfl]; exact rbytes_0_n1 c d i le sk hc h0 h1 rfl hs w
    · rw [bytesL_of 0 c d i hp 2 hs false rfl rfl]; exact rbytes_0_n2 c d i le sk hc h0 h1 rfl hs w
  · rw [bytesL_of 1 c d i hp 0 rfl false rfl rfl]; exact rbytes_1_n0 c d i le sk hc h0 h1 rfl rfl w
  · rcases size_two c with hs | hs
    · rw [bytesL_of 2 c d i hp 0 hs false rfl rfl]; exact rbytes_2_n0 c d i le sk hc h0 h1 rfl hs w
    · rw [bytesL_of 2 c d i hp 2 hs false rfl rfl]; exact rbytes_2_n2 c d i le sk hc h0 h1 rfl hs w
  · cases hn : nearM 3 c with
    | false =>
      rcases sizeM_cases 3 c with hs | hs | hs
      · rw [bytesL_of 3 c d i hp 0 hs false rfl hn]; exact rbytes_3_n0 c d i le sk hc h0 h1 hn hs w
      · rw [bytesL_of 3 c d i hp 1 hs false rfl hn]; exact rbytes_3_n1 c d i le sk hc h0 h1 hn hs w
      · rw [bytesL_of 3 c d i hp 2 hs false rfl hn]; exact rbytes_3_n2 c d i le sk hc h0 h1 hn hs w
    | true =>
      rcases sizeM_cases 3 c with hs | hs | hs
      · rw [bytesL_of 3 c d i hp 0 hs true rfl hn]; exact rbytes_3_y0 c d i le sk hc h0 h1 hn hs w
      · rw [bytesL_of 3 c d i hp 1 hs true rfl hn]; exact rbytes_3_y1 c d i le sk hc h0 h1 hn hs w
      · rw [bytesL_of 3 c d i hp 2 hs true rfl hn]; exact rbytes_3_y2 c d i le sk hc h0 h1 hn hs w
  · cases hn : nearM 4 c with
    | false =>
      rcases sizeM_cases 4 c with hs | hs | hs
      · rw [bytesL_of 4 c d i hp 0 hs false rfl hn]; exact rbytes_4_n0 c d i le sk hc h0 h1 hn hs w
      · rw [bytesL_of 4 c d i hp 1 hs false rfl hn]; exact rbytes_4_n1 c d i le sk hc h0 h1 hn hs w
      · rw [bytesL_of 4 c d i hp 2 hs false rfl hn]; exact rbytes_4_n2 c d i le sk hc h0 h1 hn hs w
    | true =>
      rcases sizeM_cases 4 c with hs | hs | hs
      · rw [bytesL_of 4 c d i hp 0 hs true rfl hn]; exact rbytes_4_y0 c d i le sk hc h0 h1 hn hs w
      · rw [bytesL_of 4 c d i hp 1 hs true rfl hn]; exact rbytes_4_y1 c d i le sk hc h0 h1 hn hs w
      · rw [bytesL_of 4 c d i hp 2 hs true rfl hn]; exact rbytes_4_y2 c d i le sk hc h0 h1 hn hs w
  · exact rbytes_5 c d i le sk w
  · exact rbytes_6 c d i le sk w
end Go.Proofs.Ytjmmhfkjmeblnaa
