/- Layer 8 (decode): Bytes: contract. -/
import Derived.Test.YtjmmhfkjmeblnaaDecodeBytes
import Derived.Test.YtjmmhfkjmeblnaaDecodeRows
import Derived.Maps.AppendAt
import Derived.Deep.RegionHeld3
namespace Go.Proofs.Ytjmmhfkjmeblnaa
open Go.RowKit
set_option linter.unusedVariables false
set_option linter.unusedSimpArgs false

/-- the bytes behind the prefixes, without the number's -/
def midL (p c d : Int) : List Int := if aheadM p then [d, c] else if nearM p c then [c, d] else [c]
def immL (n : Nat) (i : Int) : List Int := [i % 256, i / 256].take n
def bytesL (p c d i : Int) : List Int := if p < 0 ∨ 6 < p then [] else preL p ++ midL p c d ++ immL (sizeM p c).toNat i
theorem cells_list_new' (w : World) (cs : List Value) (t : TypeId) : ∀ j u, cs[j]? = some u → (w.alloc (.cells cs.toArray t)).cell? ((⟨w.heap.size, 0, none⟩ : Addr).add j) = some u := by
  intro j u hj
  have h := (Row.new w t cs.toArray).cell j
  have e : (⟨w.heap.size, 0, none⟩ : Addr).add j = ⟨w.heap.size, j, none⟩ := by
    unfold Addr.add
    split
    · rename_i h0; rw [h0]
    · simp
  rw [e, h]
  simpa using hj
theorem cells_take {w : World} {g : Nat} {t : TypeId} {cs : List Value} (h : Row w g t cs.toArray) (m : Nat) : ∀ j u, (cs.take m)[j]? = some u → w.cell? ((⟨g, 0, none⟩ : Addr).add j) = some u := by
  intro j u hj
  have h1 := h.cell j
  have e : (⟨g, 0, none⟩ : Addr).add j = ⟨g, j, none⟩ := by
    unfold Addr.add
    split
    · rename_i h0; rw [h0]
    · simp
  rw [List.getElem?_take] at hj
  split at hj
  · rw [e, h1]
    simpa using hj
  · cases hj
theorem own_below {w w' : World} {b : Nat} {e : TypeId} {s : Nat} {v : Value} {n : Nat} {xs : List Value} (h : w.ownsRow b e s v n xs) (k : Below w.heap.size w w') : w'.ownsRow b e s v n xs := by
  refine h.kept (row := none) ⟨k.os, k.tape, k.output, k.size, fun i hi _ => k.block i hi⟩ ?_
  cases e2 : v.ownBlock with
  | none => exact .inl rfl
  | some g => exact .inr (by simp)
theorem u8_info : (Try.prog.info? 5).map (fun i => (i.zero, i.size, i.bytes)) = some (some (.int .u8 0), 1, 1) := by kernel_rfl
theorem bvs_one (l : List Int) : ∀ u ∈ bvs l, u.oneCell' = true := by
  intro u hu
  unfold bvs at hu
  rw [List.mem_map] at hu
  obtain ⟨x, -, rfl⟩ := hu
  rfl
theorem bvs_append (l m : List Int) : bvs l ++ bvs m = bvs (l ++ m) := by simp [bvs]
theorem bvs_length (l : List Int) : (bvs l).length = l.length := by simp [bvs]
theorem own_mono {w : World} {b b' : Nat} {e : TypeId} {s : Nat} {v : Value} {n : Nat} {xs : List Value} (h : w.ownsRow b e s v n xs) (hb : b' ≤ b) : w.ownsRow b' e s v n xs := by
  refine ⟨h.1, ?_⟩
  rcases h.2 with e | ⟨g, cap, cur, h1, h2, h3⟩
  · exact .inl e
  · exact .inr ⟨g, cap, cur, h1, by omega, h3⟩
/-- an append onto a row of the call's own: what else the walk owes -/
theorem grown_below {w W w1 : World} {base : Nat} {e : TypeId} {size : Nat} {v : Value} {n : Nat} {xs : List Value} (h : Below w.heap.size w W) (hg : W.grownBy w1 v.ownBlock) (ho : W.ownsRow base e size v n xs) (hb : w.heap.size ≤ base) : Below w.heap.size w w1 :=
  h.grown hg h.size (fun k e => Nat.le_trans hb (ho.lt k e).1)
theorem grown_row {W w1 : World} {base : Nat} {e : TypeId} {size : Nat} {v : Value} {n : Nat} {xs : List Value} {g : Nat} {t : TypeId} {cs : Array Value} (hr : Row W g t cs) (hg : W.grownBy w1 v.ownBlock) (ho : W.ownsRow base e size v n xs) (hb : g < base) : Row w1 g t cs :=
  (hg.block g hr.lt (fun e => by have := (ho.lt g e.symm).1; omega)).trans hr
set_option maxHeartbeats 4000000 in
theorem bytes_out (p c d i le sk : Int) (hp : p < 0 ∨ 6 < p) (w : World) :
    Calls Try.prog 20 #[opV p c d i le sk] w fun e w' => e = .returned (.slice none 0 0) ∧ Below w.heap.size w w' := by
  rcases hp with h | h
  all_goals
    go_enter Try.func20, Try.ntmps20
    go_wp2
    go_ret
    exact ⟨rfl, (by repeat (first | exact Below.refl _ _ | assumption | refine bstep ?_ (by assumption) | refine Below.drew ?_ | refine Below.alloc ?_ (by first | (simp; done) | (simp; omega) | omega) _ | refine Below.setCell ?_ (by first | (simp; done) | (simp; omega) | omega) _))⟩
set_option maxHeartbeats 4000000 in
theorem bytes_ahead (p c d i le sk : Int) (hp : 0 ≤ p) (hp' : p ≤ 6) (hc : B8 c) (hd : B8 d) (h0 : 0 ≤ i) (h1 : i ≤ 65535) (ha : aheadM p = true) (m : Nat) (hm : m ≤ 2) (hs : sizeM p c = (m : Int)) (w : World) :
    Calls Try.prog 20 #[opV p c d i le sk] w fun e w' => ∃ v, e = .returned v ∧ w'.ownsRow w.heap.size 5 1 v ((preL p).length + 2 + m) (bvs (preL p ++ [d, c] ++ immL m i)) ∧ Below w.heap.size w w' := by
  have hpre : (preL p).length ≤ 2 := by unfold preL; repeat' split
                                        all_goals simp
  have hpx := Lib.hid (prefixes_any p)
  have haa := Lib.hid (ahead_any p)
  have hnn := Lib.hid (dnear_any p c hc)
  have hss := Lib.hid (size_any p c hc)
  rw [ha] at haa
  rw [hs] at hss
  clear hs
  obtain ⟨i0, hi0, hz0, hz1, hz2⟩ := info_parts u8_info
  have r0 := Row.new w 30 #[.int .i64 p, .int .u8 c, .int .u8 d, .int .u16 i, .int .i64 le, .int .i64 sk]
  have hB0 : Below w.heap.size w (w.alloc (.cells #[.int .i64 p, .int .u8 c, .int .u8 d, .int .u16 i, .int .i64 le, .int .i64 sk] 30)) := (by repeat (first | exact Below.refl _ _ | assumption | refine bstep ?_ (by assumption) | refine Below.drew ?_ | refine Below.alloc ?_ (by first | (simp; done) | (simp; omega) | omega) _ | refine Below.setCell ?_ (by first | (simp; done) | (simp; omega) | omega) _))
  have r0 := Lib.hid r0
  have hB0 := Lib.hid hB0
  go_enter Try.func20, Try.ntmps20
  go_wp2_with fail
  refine (hpx.out _).mono ?_
  rintro e w1 ⟨v0, rfl, ho0, hb0⟩
  rw [World.size_alloc] at ho0
  have hz1' := hb0.size
  rw [World.size_alloc] at hz1'
  have r1 := r0.out.below hb0 (by simp)
  have hB1 := Lib.hid (hB0.out.trans (hb0.mono (by simp)))
  obtain ⟨⟨c0, c1, c2, c3, c4, c5⟩, f⟩ := row6 r1
  have ho1 := ho0.alloc (.cells #[.int .u8 d, .int .u8 c] 5)
  have hn1 := cells_list_new' w1 [.int .u8 d, .int .u8 c] 5
  have hr1 := Lib.hid r1
  go_wp2_with (first
    | (go_at_call 27; refine (haa.out _).mono ?_; rintro e w' ⟨rfl, rfl⟩)
    | (go_at_call 13; refine (hnn.out _).mono ?_; rintro e w' ⟨rfl, rfl⟩)
    | (at_builtin; refine wpList_append_own_at _ rfl (.tmp 25) (.tmp 30) _ rfl (w.heap.size + 1) 5 i0 _ 1 1 Try.underlying27 hi0 hz0 hz1 hz2 rfl (by omega) v0 (preL p).length (bvs (preL p)) rfl ho1 ⟨w1.heap.size, 0, none⟩ 2 2 [.int .u8 d, .int .u8 c] rfl rfl hn1 (by intro u hu; simp at hu; rcases hu with rfl | rfl <;> rfl) (by simp only [maxLen]; omega) (by omega) (by simp; omega) ?_; intro v1 w2 ho2 hg2 hni2 hat2; clear c0 c1 c2 c3 c4 c5 f))
  have hBa := hB1.out.alloc (by omega) (.cells #[.int .u8 d, .int .u8 c] 5)
  have hB2 := Lib.hid (grown_below hBa hg2 ho1 (by omega))
  have r2 := grown_row (hr1.out.alloc _) hg2 ho1 (by omega)
  have hz2' := hg2.size
  rw [World.size_alloc] at hz2'
  obtain ⟨⟨c0, c1, c2, c3, c4, c5⟩, f⟩ := row6 r2
  have hz3 : w.heap.size < w2.heap.size := by omega
  have hne := World.new_ne w2 ⟨w.heap.size, 3, none⟩ c3
  have hkeep := Lib.hid c3
  go_region_held3 (fun w' => w'.cell? ⟨w.heap.size, 3, none⟩ = some (.int .u16 i)) (first | exact hkeep.out | go_keep)
    (first
    | (go_at_call 34; refine (lo_any i h0 h1 _).mono ?_; rintro e w' ⟨rfl, rfl⟩)
    | (go_at_call 35; refine (hi_any i h0 h1 _).mono ?_; rintro e w' ⟨rfl, rfl⟩))
  all_goals
    have rP : Row ((w2.drew).alloc (.cells #[.int .u8 (i % 256), .int .u8 (i / 256)] 59)) w2.heap.size 59 [.int .u8 (i % 256), .int .u8 (i / 256)].toArray := Row.new w2.drew _ _
    have rP := Lib.hid rP
    have ho3 := Lib.hid (show ((w2.alloc (.cells #[.int .u8 (i % 256), .int .u8 (i / 256)] 59)).drew).ownsRow _ _ _ _ _ _ from ho2.alloc (.cells #[.int .u8 (i % 256), .int .u8 (i / 256)] 59))
    have hB3 := Lib.hid ((hB2.out.drew).alloc (by have := hB2.out.size; simpa using this) (.cells #[.int .u8 (i % 256), .int .u8 (i / 256)] 59))
    go_wp2_with fail
    clear c0 c1 c2 c3 c4 c5 f
    refine (hss.out _).mono ?_
    rintro e w3 ⟨rfl, hb3⟩
    have rP3 := rP.out.below hb3 rP.out.lt
    have ho4 := own_below ho3.out hb3
    have hn3 := cells_take rP3 m
    have hB4 := Lib.hid (hB3.out.trans (hb3.mono hB3.out.size))
    have hsz3 := hB4.out.size
    have hsz4 : w.heap.size + 1 ≤ w3.heap.size := by
      have := hb3.size
      simp only [World.size_alloc, World.size_drew] at this
      omega
    have hlm : ([(.int .u8 (i % 256) : Value), .int .u8 (i / 256)].take m).length = m * 1 := by rw [List.length_take]; simp; omega
    have hml : (m : Int) ≤ 2 := by omega
    go_wp2_with (at_builtin; refine wpList_append_own_at _ rfl (.tmp 52) (.tmp 58) _ rfl (w.heap.size + 1) 5 i0 _ 1 1 Try.underlying27 hi0 hz0 hz1 hz2 rfl (by omega) v1 ((preL p).length + 2) (bvs (preL p) ++ [.int .u8 d, .int .u8 c]) rfl ho4 ⟨w2.heap.size, 0, none⟩ m 2 ([(.int .u8 (i % 256) : Value), .int .u8 (i / 256)].take m) rfl hlm hn3 (by intro u hu; have := List.mem_of_mem_take hu; simp at this; rcases this with rfl | rfl <;> rfl) (by simp only [maxLen]; omega) (by omega) hsz4 ?_; intro v2 w4 ho5 hg5 hni5 hat5)
    go_ret
    refine ⟨v2, rfl, ?_, grown_below hB4.out hg5 ho4 (by omega)⟩
    have := own_mono ho5 (b' := w.heap.size) (by omega)
    have e : bvs (preL p) ++ [.int .u8 d, .int .u8 c] ++ ([(.int .u8 (i % 256) : Value), .int .u8 (i / 256)].take m) = bvs (preL p ++ [d, c] ++ immL m i) := by simp [bvs, immL, List.map_take]
    rw [e] at this
    exact this
set_option maxHeartbeats 4000000 in
theorem bytes_near (p c d i le sk : Int) (hp : 0 ≤ p) (hp' : p ≤ 6) (hc : B8 c) (hd : B8 d) (h0 : 0 ≤ i) (h1 : i ≤ 65535) (ha : aheadM p = false) (hnr : nearM p c = true) (m : Nat) (hm : m ≤ 2) (hs : sizeM p c = (m : Int)) (w : World) :
    Calls Try.prog 20 #[opV p c d i le sk] w fun e w' => ∃ v, e = .returned v ∧ w'.ownsRow w.heap.size 5 1 v ((preL p).length + 2 + m) (bvs (preL p ++ [c, d] ++ immL m i)) ∧ Below w.heap.size w w' := by
  have hpre : (preL p).length ≤ 2 := by unfold preL; repeat' split
                                        all_goals simp
  have hpx := Lib.hid (prefixes_any p)
  have haa := Lib.hid (ahead_any p)
  have hnn := Lib.hid (dnear_any p c hc)
  have hss := Lib.hid (size_any p c hc)
  rw [ha] at haa
  rw [hnr] at hnn
  rw [hs] at hss
  clear hs
  obtain ⟨i0, hi0, hz0, hz1, hz2⟩ := info_parts u8_info
  have r0 := Row.new w 30 #[.int .i64 p, .int .u8 c, .int .u8 d, .int .u16 i, .int .i64 le, .int .i64 sk]
  have hB0 : Below w.heap.size w (w.alloc (.cells #[.int .i64 p, .int .u8 c, .int .u8 d, .int .u16 i, .int .i64 le, .int .i64 sk] 30)) := (by repeat (first | exact Below.refl _ _ | assumption | refine bstep ?_ (by assumption) | refine Below.drew ?_ | refine Below.alloc ?_ (by first | (simp; done) | (simp; omega) | omega) _ | refine Below.setCell ?_ (by first | (simp; done) | (simp; omega) | omega) _))
  have r0 := Lib.hid r0
  have hB0 := Lib.hid hB0
  go_enter Try.func20, Try.ntmps20
  go_wp2_with fail
  refine (hpx.out _).mono ?_
  rintro e w1 ⟨v0, rfl, ho0, hb0⟩
  rw [World.size_alloc] at ho0
  have hz1' := hb0.size
  rw [World.size_alloc] at hz1'
  have r1 := r0.out.below hb0 (by simp)
  have hB1 := Lib.hid (hB0.out.trans (hb0.mono (by simp)))
  obtain ⟨⟨c0, c1, c2, c3, c4, c5⟩, f⟩ := row6 r1
  have ho1 := ho0.alloc (.cells #[.int .u8 c, .int .u8 d] 5)
  have hn1 := cells_list_new' w1 [.int .u8 c, .int .u8 d] 5
  have hr1 := Lib.hid r1
  go_wp2_with (first
    | (go_at_call 27; refine (haa.out _).mono ?_; rintro e w' ⟨rfl, rfl⟩)
    | (go_at_call 13; refine (hnn.out _).mono ?_; rintro e w' ⟨rfl, rfl⟩)
    | (at_builtin; refine wpList_append_own_at _ rfl (.tmp 38) (.tmp 43) _ rfl (w.heap.size + 1) 5 i0 _ 1 1 Try.underlying27 hi0 hz0 hz1 hz2 rfl (by omega) v0 (preL p).length (bvs (preL p)) rfl ho1 ⟨w1.heap.size, 0, none⟩ 2 2 [.int .u8 c, .int .u8 d] rfl rfl hn1 (by intro u hu; simp at hu; rcases hu with rfl | rfl <;> rfl) (by simp only [maxLen]; omega) (by omega) (by simp; omega) ?_; intro v1 w2 ho2 hg2 hni2 hat2; clear c0 c1 c2 c3 c4 c5 f))
  have hBa := hB1.out.alloc (by omega) (.cells #[.int .u8 c, .int .u8 d] 5)
  have hB2 := Lib.hid (grown_below hBa hg2 ho1 (by omega))
  have r2 := grown_row (hr1.out.alloc _) hg2 ho1 (by omega)
  have hz2' := hg2.size
  rw [World.size_alloc] at hz2'
  obtain ⟨⟨c0, c1, c2, c3, c4, c5⟩, f⟩ := row6 r2
  have hz3 : w.heap.size < w2.heap.size := by omega
  have hne := World.new_ne w2 ⟨w.heap.size, 3, none⟩ c3
  have hkeep := Lib.hid c3
  go_region_held3 (fun w' => w'.cell? ⟨w.heap.size, 3, none⟩ = some (.int .u16 i)) (first | exact hkeep.out | go_keep)
    (first
    | (go_at_call 34; refine (lo_any i h0 h1 _).mono ?_; rintro e w' ⟨rfl, rfl⟩)
    | (go_at_call 35; refine (hi_any i h0 h1 _).mono ?_; rintro e w' ⟨rfl, rfl⟩))
  all_goals
    have rP : Row ((w2.drew).alloc (.cells #[.int .u8 (i % 256), .int .u8 (i / 256)] 59)) w2.heap.size 59 [.int .u8 (i % 256), .int .u8 (i / 256)].toArray := Row.new w2.drew _ _
    have rP := Lib.hid rP
    have ho3 := Lib.hid (show ((w2.alloc (.cells #[.int .u8 (i % 256), .int .u8 (i / 256)] 59)).drew).ownsRow _ _ _ _ _ _ from ho2.alloc (.cells #[.int .u8 (i % 256), .int .u8 (i / 256)] 59))
    have hB3 := Lib.hid ((hB2.out.drew).alloc (by have := hB2.out.size; simpa using this) (.cells #[.int .u8 (i % 256), .int .u8 (i / 256)] 59))
    go_wp2_with fail
    clear c0 c1 c2 c3 c4 c5 f
    refine (hss.out _).mono ?_
    rintro e w3 ⟨rfl, hb3⟩
    have rP3 := rP.out.below hb3 rP.out.lt
    have ho4 := own_below ho3.out hb3
    have hn3 := cells_take rP3 m
    have hB4 := Lib.hid (hB3.out.trans (hb3.mono hB3.out.size))
    have hsz3 := hB4.out.size
    have hsz4 : w.heap.size + 1 ≤ w3.heap.size := by
      have := hb3.size
      simp only [World.size_alloc, World.size_drew] at this
      omega
    have hlm : ([(.int .u8 (i % 256) : Value), .int .u8 (i / 256)].take m).length = m * 1 := by rw [List.length_take]; simp; omega
    have hml : (m : Int) ≤ 2 := by omega
    go_wp2_with (at_builtin; refine wpList_append_own_at _ rfl (.tmp 52) (.tmp 58) _ rfl (w.heap.size + 1) 5 i0 _ 1 1 Try.underlying27 hi0 hz0 hz1 hz2 rfl (by omega) v1 ((preL p).length + 2) (bvs (preL p) ++ [.int .u8 c, .int .u8 d]) rfl ho4 ⟨w2.heap.size, 0, none⟩ m 2 ([(.int .u8 (i % 256) : Value), .int .u8 (i / 256)].take m) rfl hlm hn3 (by intro u hu; have := List.mem_of_mem_take hu; simp at this; rcases this with rfl | rfl <;> rfl) (by simp only [maxLen]; omega) (by omega) hsz4 ?_; intro v2 w4 ho5 hg5 hni5 hat5)
    go_ret
    refine ⟨v2, rfl, ?_, grown_below hB4.out hg5 ho4 (by omega)⟩
    have := own_mono ho5 (b' := w.heap.size) (by omega)
    have e : bvs (preL p) ++ [.int .u8 c, .int .u8 d] ++ ([(.int .u8 (i % 256) : Value), .int .u8 (i / 256)].take m) = bvs (preL p ++ [c, d] ++ immL m i) := by simp [bvs, immL, List.map_take]
    rw [e] at this
    exact this
set_option maxHeartbeats 4000000 in
theorem bytes_plain (p c d i le sk : Int) (hp : 0 ≤ p) (hp' : p ≤ 6) (hc : B8 c) (hd : B8 d) (h0 : 0 ≤ i) (h1 : i ≤ 65535) (ha : aheadM p = false) (hnr : nearM p c = false) (m : Nat) (hm : m ≤ 2) (hs : sizeM p c = (m : Int)) (w : World) :
    Calls Try.prog 20 #[opV p c d i le sk] w fun e w' => ∃ v, e = .returned v ∧ w'.ownsRow w.heap.size 5 1 v ((preL p).length + 1 + m) (bvs (preL p ++ [c] ++ immL m i)) ∧ Below w.heap.size w w' := by
  have hpre : (preL p).length ≤ 2 := by unfold preL; repeat' split
                                        all_goals simp
  have hpx := Lib.hid (prefixes_any p)
  have haa := Lib.hid (ahead_any p)
  have hnn := Lib.hid (dnear_any p c hc)
  have hss := Lib.hid (size_any p c hc)
  rw [ha] at haa
  rw [hnr] at hnn
  rw [hs] at hss
  clear hs
  obtain ⟨i0, hi0, hz0, hz1, hz2⟩ := info_parts u8_info
  have r0 := Row.new w 30 #[.int .i64 p, .int .u8 c, .int .u8 d, .int .u16 i, .int .i64 le, .int .i64 sk]
  have hB0 : Below w.heap.size w (w.alloc (.cells #[.int .i64 p, .int .u8 c, .int .u8 d, .int .u16 i, .int .i64 le, .int .i64 sk] 30)) := (by repeat (first | exact Below.refl _ _ | assumption | refine bstep ?_ (by assumption) | refine Below.drew ?_ | refine Below.alloc ?_ (by first | (simp; done) | (simp; omega) | omega) _ | refine Below.setCell ?_ (by first | (simp; done) | (simp; omega) | omega) _))
  have r0 := Lib.hid r0
  have hB0 := Lib.hid hB0
  go_enter Try.func20, Try.ntmps20
  go_wp2_with fail
  refine (hpx.out _).mono ?_
  rintro e w1 ⟨v0, rfl, ho0, hb0⟩
  rw [World.size_alloc] at ho0
  have hz1' := hb0.size
  rw [World.size_alloc] at hz1'
  have r1 := r0.out.below hb0 (by simp)
  have hB1 := Lib.hid (hB0.out.trans (hb0.mono (by simp)))
  obtain ⟨⟨c0, c1, c2, c3, c4, c5⟩, f⟩ := row6 r1
  have ho1 := ho0.alloc (.cells #[.int .u8 c] 5)
  have hn1 := cells_list_new' w1 [.int .u8 c] 5
  have hr1 := Lib.hid r1
  go_wp2_with (first
    | (go_at_call 27; refine (haa.out _).mono ?_; rintro e w' ⟨rfl, rfl⟩)
    | (go_at_call 13; refine (hnn.out _).mono ?_; rintro e w' ⟨rfl, rfl⟩)
    | (at_builtin; refine wpList_append_own_at _ rfl (.tmp 16) (.tmp 19) _ rfl (w.heap.size + 1) 5 i0 _ 1 1 Try.underlying27 hi0 hz0 hz1 hz2 rfl (by omega) v0 (preL p).length (bvs (preL p)) rfl ho1 ⟨w1.heap.size, 0, none⟩ 1 1 [.int .u8 c] rfl rfl hn1 (by intro u hu; simp at hu; rcases hu with rfl <;> rfl) (by simp only [maxLen]; omega) (by omega) (by simp; omega) ?_; intro v1 w2 ho2 hg2 hni2 hat2; clear c0 c1 c2 c3 c4 c5 f))
  have hBa := hB1.out.alloc (by omega) (.cells #[.int .u8 c] 5)
  have hB2 := Lib.hid (grown_below hBa hg2 ho1 (by omega))
  have r2 := grown_row (hr1.out.alloc _) hg2 ho1 (by omega)
  have hz2' := hg2.size
  rw [World.size_alloc] at hz2'
  obtain ⟨⟨c0, c1, c2, c3, c4, c5⟩, f⟩ := row6 r2
  have hz3 : w.heap.size < w2.heap.size := by omega
  have hne := World.new_ne w2 ⟨w.heap.size, 3, none⟩ c3
  have hkeep := Lib.hid c3
  go_region_held3 (fun w' => w'.cell? ⟨w.heap.size, 3, none⟩ = some (.int .u16 i)) (first | exact hkeep.out | go_keep)
    (first
    | (go_at_call 34; refine (lo_any i h0 h1 _).mono ?_; rintro e w' ⟨rfl, rfl⟩)
    | (go_at_call 35; refine (hi_any i h0 h1 _).mono ?_; rintro e w' ⟨rfl, rfl⟩))
  all_goals
    have rP : Row ((w2.drew).alloc (.cells #[.int .u8 (i % 256), .int .u8 (i / 256)] 59)) w2.heap.size 59 [.int .u8 (i % 256), .int .u8 (i / 256)].toArray := Row.new w2.drew _ _
    have rP := Lib.hid rP
    have ho3 := Lib.hid (show ((w2.alloc (.cells #[.int .u8 (i % 256), .int .u8 (i / 256)] 59)).drew).ownsRow _ _ _ _ _ _ from ho2.alloc (.cells #[.int .u8 (i % 256), .int .u8 (i / 256)] 59))
    have hB3 := Lib.hid ((hB2.out.drew).alloc (by have := hB2.out.size; simpa using this) (.cells #[.int .u8 (i % 256), .int .u8 (i / 256)] 59))
    go_wp2_with fail
    clear c0 c1 c2 c3 c4 c5 f
    refine (hss.out _).mono ?_
    rintro e w3 ⟨rfl, hb3⟩
    have rP3 := rP.out.below hb3 rP.out.lt
    have ho4 := own_below ho3.out hb3
    have hn3 := cells_take rP3 m
    have hB4 := Lib.hid (hB3.out.trans (hb3.mono hB3.out.size))
    have hsz3 := hB4.out.size
    have hsz4 : w.heap.size + 1 ≤ w3.heap.size := by
      have := hb3.size
      simp only [World.size_alloc, World.size_drew] at this
      omega
    have hlm : ([(.int .u8 (i % 256) : Value), .int .u8 (i / 256)].take m).length = m * 1 := by rw [List.length_take]; simp; omega
    have hml : (m : Int) ≤ 2 := by omega
    go_wp2_with (at_builtin; refine wpList_append_own_at _ rfl (.tmp 52) (.tmp 58) _ rfl (w.heap.size + 1) 5 i0 _ 1 1 Try.underlying27 hi0 hz0 hz1 hz2 rfl (by omega) v1 ((preL p).length + 1) (bvs (preL p) ++ [.int .u8 c]) rfl ho4 ⟨w2.heap.size, 0, none⟩ m 2 ([(.int .u8 (i % 256) : Value), .int .u8 (i / 256)].take m) rfl hlm hn3 (by intro u hu; have := List.mem_of_mem_take hu; simp at this; rcases this with rfl | rfl <;> rfl) (by simp only [maxLen]; omega) (by omega) hsz4 ?_; intro v2 w4 ho5 hg5 hni5 hat5)
    go_ret
    refine ⟨v2, rfl, ?_, grown_below hB4.out hg5 ho4 (by omega)⟩
    have := own_mono ho5 (b' := w.heap.size) (by omega)
    have e : bvs (preL p) ++ [.int .u8 c] ++ ([(.int .u8 (i % 256) : Value), .int .u8 (i / 256)].take m) = bvs (preL p ++ [c] ++ immL m i) := by simp [bvs, immL, List.map_take]
    rw [e] at this
    exact this
theorem sizeM_nat (p c : Int) : ∃ m : Nat, m ≤ 2 ∧ sizeM p c = (m : Int) := by
  have h := sizeM_le p c
  exact ⟨(sizeM p c).toNat, by omega, by omega⟩
/-- a slice of bytes of the call's own -/
def OwnBytes (w' : World) (base : Nat) (v : Value) (l : List Int) : Prop := w'.ownsRow base 5 1 v l.length (bvs l)
theorem bytes_any (p c d i le sk : Int) (hc : B8 c) (hd : B8 d) (h0 : 0 ≤ i) (h1 : i ≤ 65535) (w : World) :
    Calls Try.prog 20 #[opV p c d i le sk] w fun e w' => ∃ v, e = .returned v ∧ OwnBytes w' w.heap.size v (bytesL p c d i) ∧ Below w.heap.size w w' := by
  by_cases hp : p < 0 ∨ 6 < p
  · refine (bytes_out p c d i le sk hp w).mono ?_
    rintro e w' ⟨rfl, hb⟩
    refine ⟨_, rfl, ?_, hb⟩
    unfold bytesL
    rw [if_pos hp]
    exact World.ownsRow_nil _ _ _ _
  · obtain ⟨m, hm, hs⟩ := sizeM_nat p c
    have hl : bytesL p c d i = preL p ++ midL p c d ++ immL m i := by unfold bytesL; rw [if_neg hp, hs]; rfl
    have hil : (immL m i).length = m := by unfold immL; rw [List.length_take]; simp; omega
    cases ha : aheadM p with
    | true =>
      refine (bytes_ahead p c d i le sk (by omega) (by omega) hc hd h0 h1 ha m hm hs w).mono ?_
      rintro e w' ⟨v, rfl, ho, hb⟩
      refine ⟨v, rfl, ?_, hb⟩
      have hmid : midL p c d = [d, c] := by unfold midL; rw [ha]; rfl
      unfold OwnBytes
      rw [hl, hmid, List.length_append, List.length_append, hil]
      exact ho
    | false =>
      cases hnr : nearM p c with
      | true =>
        refine (bytes_near p c d i le sk (by omega) (by omega) hc hd h0 h1 ha hnr m hm hs w).mono ?_
        rintro e w' ⟨v, rfl, ho, hb⟩
        refine ⟨v, rfl, ?_, hb⟩
        have hmid : midL p c d = [c, d] := by unfold midL; rw [ha, hnr]; rfl
        unfold OwnBytes
        rw [hl, hmid, List.length_append, List.length_append, hil]
        exact ho
      | false =>
        refine (bytes_plain p c d i le sk (by omega) (by omega) hc hd h0 h1 ha hnr m hm hs w).mono ?_
        rintro e w' ⟨v, rfl, ho, hb⟩
        refine ⟨v, rfl, ?_, hb⟩
        have hmid : midL p c d = [c] := by unfold midL; rw [ha, hnr]; rfl
        unfold OwnBytes
        rw [hl, hmid, List.length_append, List.length_append, hil]
        exact ho
end Go.Proofs.Ytjmmhfkjmeblnaa
