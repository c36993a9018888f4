/- The library's contract of slices.SortFunc at cells, laid by name; cmp.Compare at addresses; the closure. -/
import Derived.Shelf.SlSortCmp.NoneTotal
import Derived.Test.YtahnejcfengljaaCellsRefB
namespace Go.Proofs.Ytahnejcfengljaa
open Go.RowKit
set_option linter.unusedVariables false
set_option maxRecDepth 20000
section
open Go.Shelf
def Sh.sortC_ren : Go.Shelf.Ren := ⟨fun | 6 => 26 | 15 => 30 | 14 => 29 | 28 => 40 | 29 => 41 | 20 => 32 | 21 => 33 | 22 => 34 | 23 => 35 | 24 => 36 | 25 => 37 | 26 => 38 | 27 => 39 | 46 => 42 | 47 => 43 | 48 => 44 | 49 => 45 | 50 => 46 | 57 => 47 | n => n, fun | 22 => 22 | 24 => 38 | 25 => 46 | 3 => 3 | 39 => 49 | 0 => 0 | 53 => 60 | 55 => 62 | 4 => 4 | 46 => 53 | 45 => 52 | 50 => 57 | 5 => 5 | 9 => 9 | 66 => 63 | 70 => 67 | 76 => 69 | 77 => 70 | n => n, fun | n => n⟩
theorem Sh.sortC : Go.Proofs.SlLaysF0.n6 Try.prog Sh.sortC_ren := {
  mixed := by kernel_rfl
  f6 := ⟨Try.f26.name, by kernel_rfl, Try.func26.trans (congrArg some (by kernel_rfl))⟩
  f14 := ⟨Try.f29.name, by kernel_rfl, Try.func29.trans (congrArg some (by kernel_rfl))⟩
  f15 := Try.func30.trans (congrArg some (by kernel_rfl))
  f20 := ⟨Try.f32.name, by kernel_rfl, Try.func32.trans (congrArg some (by kernel_rfl))⟩
  f21 := ⟨Try.f33.name, by kernel_rfl, Try.func33.trans (congrArg some (by kernel_rfl))⟩
  f22 := ⟨Try.f34.name, by kernel_rfl, Try.func34.trans (congrArg some (by kernel_rfl))⟩
  f23 := ⟨Try.f35.name, by kernel_rfl, Try.func35.trans (congrArg some (by kernel_rfl))⟩
  f24 := ⟨Try.f36.name, by kernel_rfl, Try.func36.trans (congrArg some (by kernel_rfl))⟩
  f25 := ⟨Try.f37.name, by kernel_rfl, Try.func37.trans (congrArg some (by kernel_rfl))⟩
  f26 := ⟨Try.f38.name, by kernel_rfl, Try.func38.trans (congrArg some (by kernel_rfl))⟩
  f27 := ⟨Try.f39.name, by kernel_rfl, Try.func39.trans (congrArg some (by kernel_rfl))⟩
  f28 := Try.func40.trans (congrArg some (by kernel_rfl))
  f29 := Try.func41.trans (congrArg some (by kernel_rfl))
  f46 := ⟨Try.f42.name, by kernel_rfl, Try.func42.trans (congrArg some (by kernel_rfl))⟩
  f47 := Try.func43.trans (congrArg some (by kernel_rfl))
  f48 := Try.func44.trans (congrArg some (by kernel_rfl))
  f49 := ⟨Try.f45.name, by kernel_rfl, Try.func45.trans (congrArg some (by kernel_rfl))⟩
  f50 := ⟨Try.f46.name, by kernel_rfl, Try.func46.trans (congrArg some (by kernel_rfl))⟩
  f57 := ⟨Try.f47.name, by kernel_rfl, Try.func47.trans (congrArg some (by kernel_rfl))⟩
  t0 := Try.underlying0
  a0 := Try.isAgg0
  z0 := Try.sizeOf0
  v0 := Try.zeroValue0
  t3 := Try.underlying3
  a3 := Try.isAgg3
  z3 := Try.sizeOf3
  v3 := Try.zeroValue3
  t4 := Try.underlying4
  a4 := Try.isAgg4
  z4 := Try.sizeOf4
  v4 := Try.zeroValue4
  t5 := Try.underlying5
  a5 := Try.isAgg5
  z5 := Try.sizeOf5
  v5 := Try.zeroValue5
  t9 := Try.underlying9
  a9 := Try.isAgg9
  z9 := Try.sizeOf9
  v9 := Try.zeroValue9
  t22 := Try.underlying22
  a22 := Try.isAgg22
  z22 := Try.sizeOf22
  v22 := Try.zeroValue22
  t25 := Try.underlying46
  a25 := Try.isAgg46
  z25 := Try.sizeOf46
  v25 := Try.zeroValue46
  t39 := Try.underlying49
  a39 := Try.isAgg49
  z39 := Try.sizeOf49
  v39 := Try.zeroValue49
  t45 := Try.underlying52
  a45 := Try.isAgg52
  z45 := Try.sizeOf52
  v45 := Try.zeroValue52
  t46 := Try.underlying53
  a46 := Try.isAgg53
  z46 := Try.sizeOf53
  v46 := Try.zeroValue53
  t50 := Try.underlying57
  a50 := Try.isAgg57
  z50 := Try.sizeOf57
  v50 := Try.zeroValue57
  t53 := Try.underlying60
  a53 := Try.isAgg60
  z53 := Try.sizeOf60
  v53 := Try.zeroValue60
  t55 := Try.underlying62
  a55 := Try.isAgg62
  z55 := Try.sizeOf62
  v55 := Try.zeroValue62
  t66 := Try.underlying63
  a66 := Try.isAgg63
  z66 := Try.sizeOf63
  v66 := Try.zeroValue63
  t70 := Try.underlying67
  a70 := Try.isAgg67
  z70 := Try.sizeOf67
  v70 := Try.zeroValue67
  t76 := Try.underlying69
  a76 := Try.isAgg69
  z76 := Try.sizeOf69
  v76 := Try.zeroValue69
  t77 := Try.underlying70
  a77 := Try.isAgg70
  z77 := Try.sizeOf70
  v77 := Try.zeroValue70 }
end
open Go.Shelf Go.Lib Go.Sort
theorem isNaN_any (x : Int) (w : World) : Calls Try.prog 31 #[.int .u16 x] w fun e w' => e = .returned (.bool false) ∧ w' = w := by
  go_enter Try.func31, Try.ntmps31
  go_wp2
  go_ret
  exact ⟨rfl, rfl⟩
theorem compare_any (x y : Int) (w : World) : Calls Try.prog 28 #[.int .u16 x, .int .u16 y] w fun e w' => e = .returned (.int .i64 (Lib.compareInt x y)) ∧ w' = w := by
  go_enter Try.func28, Try.ntmps28
  go_wp2_with (go_at_call 31; refine (isNaN_any _ _).mono ?_; rintro e w' ⟨rfl, rfl⟩)
  all_goals go_ret
  all_goals refine ⟨?_, rfl⟩
  all_goals unfold Lib.compareInt
  all_goals first
    | (simp_all; done)
    | (rw [if_neg (show ¬ x < y by omega), if_neg (show ¬ x > y by omega)]; first | rfl | simp)
/-- a cell's two values -/
def encC (c : Int × Int) : List Value := [.int .u16 c.1, .int .u8 c.2]
set_option maxHeartbeats 1000000 in
theorem closure_any (x y : Int × Int) (W : World) : Calls Try.prog 27 #[.agg #[.int .u16 x.1, .int .u8 x.2], .agg #[.int .u16 y.1, .int .u8 y.2]] W fun e w' => e = .returned (.int .i64 (Lib.compareInt x.1 y.1)) ∧ ∃ q os', w' = grow (W.drewN q) os' := by
  have hcon := fun W' => compare_any x.1 y.1 W'
  generalize Lib.compareInt x.1 y.1 = r at hcon ⊢
  go_enter Try.func27, Try.ntmps27
  go_wp2_with (go_at_call 28; refine (hcon _).mono ?_; rintro e w' ⟨rfl, rfl⟩)
  go_ret
  exact ⟨rfl, 0, _, by rw [alloc_eq_grow, alloc_eq_grow, grow_grow]; rfl⟩
theorem cmpLays_any (blk off size : Nat) (w : World) : CmpLays Try.prog 27 #[] encC 2 (fun x y => Lib.compareInt x.1 y.1) blk off size w :=
  fun _ _ _ _ x y => closure_any x y _
theorem ltLo (x y : Int × Int) : ltOf (fun x y : Int × Int => Lib.compareInt x.1 y.1) x y = decide (x.1 < y.1) := by
  unfold ltOf Lib.compareInt
  by_cases h1 : x.1 < y.1
  · simp [h1]
  · by_cases h2 : y.1 < x.1 <;> simp [h1, h2]
theorem swoLo : SWO (ltOf fun x y : Int × Int => Lib.compareInt x.1 y.1) where
  irrefl x := by rw [ltLo]; simp
  trans x y z h1 h2 := by rw [ltLo] at *; simp at *; omega
  ntrans x y z h1 h2 := by rw [ltLo] at *; simp at *; omega
theorem cvs_at (l : List (Int × Int)) (j : Nat) (hj : j < l.length * 2) : (cvs l)[j]? = some (encC l.toArray[j / 2]!)[j % 2]! := by
  have h2 : j / 2 < l.length := by omega
  have e : l.toArray[j / 2]! = l[j / 2] := by simp [h2]
  rw [e]
  have hd : j = j / 2 * 2 ∨ j = j / 2 * 2 + 1 := by omega
  rcases hd with h | h
  · have hm : j % 2 = 0 := by omega
    rw [hm]
    conv => lhs; rw [h]
    rw [cvs_even, List.getElem?_eq_getElem h2]
    rfl
  · have hm : j % 2 = 1 := by omega
    rw [hm]
    conv => lhs; rw [h]
    rw [cvs_odd, List.getElem?_eq_getElem h2]
    rfl
theorem own_holds {W : World} {b g cap : Nat} {l : List (Int × Int)} (h : W.ownsRow b 38 2 (.slice (some ⟨g, 0, none⟩) l.length cap) l.length (cvs l)) : HoldsK encC 2 W g 0 l.toArray := fun j hj => by
  rw [size_flatK] at hj
  rw [get_flatK _ _ _ _ hj]
  have hj' : j < l.length * 2 := by simpa using hj
  rw [Nat.zero_add]
  exact ⟨(h.cellAt j hj').trans (cvs_at l j hj'), h.frozenAt j⟩
theorem holds_cells {W : World} {g : Nat} {l : List (Int × Int)} (h : HoldsK encC 2 W g 0 l.toArray) (hb : g < W.heap.size) : CellsIn W W.heap.size (some ⟨g, 0, none⟩) l :=
  CellsIn.of_values hb fun j u hu => by
    have hj : j < l.length * 2 := by
      have := (List.getElem?_eq_some_iff.1 hu).1
      rwa [cvs_length] at this
    have h1 := (h j (by rw [size_flatK]; simpa using hj)).1
    rw [get_flatK _ _ _ _ (by simpa using hj)] at h1
    rw [cvs_at l j hj] at hu
    have e : (⟨g, 0, none⟩ : Addr).add j = ⟨g, 0 + j, none⟩ := by
      unfold Addr.add
      split
      · rename_i h0; rw [h0]
      · simp
    rw [e]
    exact h1.trans (by simpa using hu)
theorem sorted_grown (W : World) (blk n : Nat) (d : Array (Int × Int)) (os : Array Obj) : W.grownBy (sortWorldK encC 2 W blk 0 n d os) (some blk) := by
  refine ⟨rfl, rfl, rfl, ?_, fun i hi hne => ?_⟩
  · unfold sortWorldK putRowK
    rw [size_grow, size_putRow]
    exact Nat.le_add_right _ _
  · unfold sortWorldK
    rw [heap_grow_old _ _ (by unfold putRowK; rw [size_putRow]; exact hi)]
    unfold putRowK putRow mapBlock
    show (W.heap.modify blk _)[i]? = _
    rw [Array.getElem?_modify, if_neg (by intro e; exact hne (by rw [e]))]
theorem csort_any (blk cap : Nat) (l : List (Int × Int)) (hl : l.length ≤ 1000000000) (w : World) (hH : HoldsK encC 2 w blk 0 l.toArray) (hblk : blk < w.heap.size) :
    Calls Try.prog 26 #[.slice (some ⟨blk, 0, none⟩) l.length cap, .func (.func 27) #[] #[]] w fun e w' => e = .returned (.tuple #[]) ∧ ∃ d : List (Int × Int), d.Perm l ∧ d.Pairwise (fun x y => x.1 ≤ y.1) ∧ CellsIn w' w'.heap.size (some ⟨blk, 0, none⟩) d ∧ w.grownBy w' (some blk) := by
  have eg : ∀ args w, (callFunc 27 args).run Try.prog w = .ok (.enter 27 args) w := enters_of Try.func27 (by kernel_rfl) rfl
  have hcon := AnyQ.slices_SortFunc Sh.sortC 2 Try.isAgg38 Try.sizeOf38 encC (fun _ => rfl) (fun x v hv => by simp [encC] at hv; rcases hv with rfl | rfl <;> rfl) (fun x y => Lib.compareInt x.1 y.1) swoLo 27 #[] blk 0 cap l.toArray w eg (cmpLays_any blk 0 l.toArray.size w) hH hblk (by simp; omega)
  change Calls Try.prog 26 _ _ _ at hcon
  have e0 : l.toArray.size = l.length := by simp
  rw [e0] at hcon
  refine hcon.mono ?_
  rintro e w' ⟨rfl, d', n, os, ⟨p1, p2, p3⟩, hs, rfl⟩
  have hsz : d'.size = l.length := by rw [p1, e0]
  have hH' := holdsK_sortWorldK_c encC 2 w blk 0 l.toArray d' n os hH hblk p1
  refine ⟨rfl, d'.toList, ?_, ?_, ?_, sorted_grown w blk n d' os⟩
  · have e1 : d'.extract 0 l.length = d' := by rw [← hsz]; simp
    have e2 : l.toArray.extract 0 l.length = l.toArray := by rw [← e0]; simp
    rw [e1, e2] at p3
    simpa using p3
  · rw [List.pairwise_iff_getElem]
    intro i j hi hj hij
    have hi' : i < d'.size := by simpa using hi
    have hj' : j < d'.size := by simpa using hj
    have := hs i j (Nat.zero_le _) hij (by omega)
    rw [ltLo, getElem!_pos d' j hj', getElem!_pos d' i hi'] at this
    simp at this
    simpa using this
  · refine holds_cells (l := d'.toList) (by simpa using hH') ?_
    exact Nat.lt_of_lt_of_le hblk (size_sortWorldK_c encC 2 w blk 0 n d' os)
end Go.Proofs.Ytahnejcfengljaa
