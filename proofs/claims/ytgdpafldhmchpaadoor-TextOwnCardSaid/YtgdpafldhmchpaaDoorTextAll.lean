/- Layer 9 (text): the texts of bytes' instructions: contract of All. -/
import Derived.Test.YtgdpafldhmchpaaDoorTextShow
import Derived.Test.YtgdpafldhmchpaaDoorDecodeSums
import Derived.Maps.AppendAt
namespace Go.Proofs.YtgdpafldhmchpaaDoor
open Go.RowKit
set_option linter.unusedVariables false
set_option linter.unusedSimpArgs false

def textOf (o : OpM) : ByteArray := sy o.plane o.disp o.imm (showT o.plane o.code)
def textCs (l : List OpM) : List Value := l.map fun o => .string (textOf o)
theorem textCs_snoc (l : List OpM) (o : OpM) : textCs (l ++ [o]) = textCs l ++ [.string (textOf o)] := by simp [textCs]
theorem str_info : (Tryd.prog.info? 9).map (fun i => (i.zero, i.size, i.bytes)) = some (some (.string ⟨#[]⟩), 1, 16) := by kernel_rfl
def OpB (o : OpM) : Prop := B8 o.code ∧ B8 o.disp ∧ 0 ≤ o.imm ∧ o.imm ≤ 65535
set_option maxHeartbeats 4000000 in
theorem tall_any (ad : Option Addr) (cap : Nat) (xs : List Int) (hl : xs.length ≤ 4096) (hc : xs.length ≤ cap) (hx : Bytes8 xs) (k : Nat) (hst : Stops xs k) (hk0 : 0 < k) (hk : k ≤ 4096) (hob : ∀ j, j < k → OpB (opK xs j)) (w : World) (h : BytesIn w w.heap.size ad xs) (ht : TextTabs w) :
    Calls Tryd.prog 10 #[.slice ad xs.length cap] w fun e W' => ∃ v base, w.heap.size ≤ base ∧ e = .returned v ∧ W'.ownsRow base 9 1 v k (textCs (opsL xs k)) ∧ Below w.heap.size w W' := by
  obtain ⟨i0, hi0, hz0, hz1, hz2⟩ := info_parts str_info
  have kall := Lib.hid (all_any ad cap xs hl hc hx w h)
  have HOB := Lib.hid hob
  have HST := Lib.hid hst
  clear hob hst h
  go_enter Tryd.func10, Tryd.ntmps10
  go_wp2_with fail
  refine kall.out.mono ?_
  rintro e W1 ⟨k', v, hst, rfl, hown, hb⟩
  obtain rfl := hst.same HST.out
  clear hst
  rcases hown.2 with ⟨_, h0⟩ | ⟨g, cap', cur, rfl, -⟩
  · omega
  have hrow := fun j hj o ho => rowCs_cells (opsL_length xs k') hown j hj o ho
  have hglt : g < W1.heap.size := by
    have := (hrow 0 (by omega) (opK xs 0) (by rw [opsL, List.getElem?_map, List.getElem?_range (by omega)]; rfl)).1
    exact World.block_lt_of_cell? _ _ this
  have HR := Lib.hid hrow
  have HB := Lib.hid hb
  clear hown hrow hb
  go_wp2
  go_loopw [5, 15] (fun l i wr => ∃ (j : Nat), j ≤ k' ∧ i = .int .i64 j ∧ wr.ownsRow W1.heap.size 9 1 l j (textCs (opsL xs j)) ∧ Below W1.heap.size W1 wr) (fun _ i _ => k' - (intOf i).toNat)
  case atStart => exact ⟨0, by omega, rfl, World.ownsRow_nil _ _ _ _, Below.refl _ _⟩
  case round =>
    obtain ⟨j, hj, rfl, hv, hB⟩ := hrel
    have HBr := Lib.hid hB
    have HV := Lib.hid hv
    clear hB hv
    by_cases hlt : j < k'
    · obtain ⟨c0, c1, c2, c3, c4, c5⟩ := HR.out j hlt (opK xs j) (by rw [opsL, List.getElem?_map, List.getElem?_range hlt]; rfl)
      have hbb := HOB.out j hlt
      have hsu := opsL_succ xs j
      generalize opK xs j = o at *
      obtain ⟨pl, co, di, im, le, sk⟩ := o
      obtain ⟨bc, bd, b0, b1⟩ := hbb
      simp only at c0 c1 c2 c3 c4 c5 bc bd b0 b1
      have d0 := (HBr.out.cell (p := ⟨g, j * 6, none⟩) hglt).trans c0
      have d1 := (HBr.out.cell (p := ⟨g, j * 6 + 1, none⟩) hglt).trans c1
      have d2 := (HBr.out.cell (p := ⟨g, j * 6 + 2, none⟩) hglt).trans c2
      have d3 := (HBr.out.cell (p := ⟨g, j * 6 + 3, none⟩) hglt).trans c3
      have d4 := (HBr.out.cell (p := ⟨g, j * 6 + 4, none⟩) hglt).trans c4
      have d5 := (HBr.out.cell (p := ⟨g, j * 6 + 5, none⟩) hglt).trans c5
      clear c0 c1 c2 c3 c4 c5
      have hgr : g < wr.heap.size := Nat.lt_of_lt_of_le hglt HBr.out.size
      have HSU := Lib.hid hsu
      clear hsu
      have htw : ∀ W, Below w.heap.size w W → TextTabs W := fun W hW => ht.below hW
      have HBx := HB.out.alloc HB.out.size (.cells #[.int .i64 0] 3)
      have kshow := Lib.hid (fun W (hW : Below W1.heap.size W1 W) => tshow_any pl co di im le sk bc bd ⟨b0, b1⟩ W (ht.below (HB.out.trans (hW.mono HB.out.size))))
      have n0 : (0 : Int) ≤ (j : Int) := by omega
      have n1 : (j : Int) < (k' : Int) := by omega
      have hBA := Lib.hid (HBr.out.alloc HBr.out.size (.cells #[.int .i64 pl, .int .u8 co, .int .u8 di, .int .u16 im, .int .i64 le, .int .i64 sk] 24))
      clear htw HBx bc bd b0 b1
      go_wp2_with fail
      refine (kshow.out _ hBA.out).mono ?_
      rintro e w2 ⟨rfl, hb2⟩
      have hB2 := hBA.out.trans (hb2.mono hBA.out.size)
      have own2 := own_below (HV.out.alloc (.cells #[.int .i64 pl, .int .u8 co, .int .u8 di, .int .u16 im, .int .i64 le, .int .i64 sk] 24)) hb2
      have ownA := own2.alloc (.cells #[.string (sy pl di im (showT pl co))] 9)
      have hnews := cells_list_new' w2 [.string (sy pl di im (showT pl co))] 9
      have hB3 := hB2.alloc hB2.size (.cells #[.string (sy pl di im (showT pl co))] 9)
      have hsz2 := hB2.size
      have HB2 := Lib.hid hB2
      have HB3 := Lib.hid hB3
      clear hb2 own2 d0 d1 d2 d3 d4 d5 hB2 hB3
      go_wp2_with (at_builtin; refine wpList_append_own_at _ rfl (.tmp 19) (.tmp 22) _ rfl W1.heap.size 9 i0 _ 1 16 Tryd.underlying29 hi0 hz0 hz1 hz2 rfl (by omega) u5 j (textCs (opsL xs j)) rfl ownA ⟨w2.heap.size, 0, none⟩ 1 1 [.string (sy pl di im (showT pl co))] rfl rfl hnews (by intro u hu; simp at hu; rcases hu with rfl; rfl) (by simp only [maxLen]; omega) (by omega) (by simp; omega) ?_; intro v1 w4 hown4 hg4 hni4 hat4)
      have B4 := grown_below HB3.out hg4 ownA (Nat.le_refl _)
      have own4 : w4.ownsRow W1.heap.size 9 1 v1 (j + 1) (textCs (opsL xs (j + 1))) := by
        rw [HSU.out, textCs_snoc]
        exact hown4
      have HO4 := Lib.hid own4
      have HB4 := Lib.hid B4
      clear own4 B4 hown4 ownA hnews hg4 hni4 hat4
      go_wp2
      go_roundw
      case rel => exact ⟨j + 1, by omega, by go_num, HO4.out, HB4.out⟩
      case measure => simp [intOf]; omega
    · obtain rfl : j = k' := by omega
      go_wp2
      go_ret
      exact ⟨_, W1.heap.size, HB.out.size, rfl, HV.out, HB.out.trans (HBr.out.mono HB.out.size)⟩
end Go.Proofs.YtgdpafldhmchpaaDoor
