/- Layer 10 (times): All and the document's own: contracts. -/
import Derived.Test.YtlmeekaemhghgaaDoorTimesRefC
import Derived.Test.YtlmeekaemhghgaaDoorDecodeSame
namespace Go.Proofs.YtlmeekaemhghgaaDoor
open Go.RowKit
set_option linter.unusedVariables false
set_option linter.unusedSimpArgs false

theorem opK_code (xs : List Int) (hx : Bytes8 xs) (k : Nat) : B8 (opK xs k).code := by
  have hg := gb_byte (hx.drop (posM xs k))
  show B8 (hCode (gb (xs.drop (posM xs k))) _ _)
  unfold hCode
  split
  · exact hg _
  · split
    · exact hg _
    · exact hg _
theorem sumT_wrap (l : List OpM) : wrap64 (sumT l) = sumT l := by
  rcases List.eq_nil_or_concat l with rfl | ⟨l', o, rfl⟩
  · show wrap64 0 = 0
    unfold wrap64
    omega
  · rw [List.concat_eq_append, sumT_snoc]
    unfold wrap64
    omega
theorem opsL_take (xs : List Int) (k j : Nat) (hj : j < k) : (opsL xs k)[j]? = some (opK xs j) := by
  unfold opsL
  rw [List.getElem?_map, List.getElem?_range hj]
  rfl
set_option maxHeartbeats 4000000 in
theorem timesAll_any (ad : Option Addr) (cap : Nat) (xs : List Int) (hl : xs.length ≤ 4096) (hc : xs.length ≤ cap) (hx : Bytes8 xs) (k : Nat) (hst : Stops xs k) (w : World) (h : BytesIn w w.heap.size ad xs) (ht : TimesTabs w) :
    Calls Tryd.prog 13 #[.slice ad xs.length cap] w fun e W' => e = .returned (.int .i64 (sumT (opsL xs k))) ∧ Below w.heap.size w W' := by
  have A1 := Lib.hid (all_any ad cap xs hl hc hx w h)
  have KO := Lib.hid (fun (j : Nat) (hj : j < k) W (hW : Below w.heap.size w W) => timesOf_any (opK xs j).plane (opK xs j).code (opK xs j).disp (opK xs j).imm (opK xs j).len (opK xs j).skip false (opK_code xs hx j) W (ht.below hW))
  have hk4 := (hst.1).pos
  clear ht h hx
  have HS := Lib.hid hst
  clear hst
  go_enter Tryd.func13, Tryd.ntmps13
  go_wp2_with fail
  refine A1.out.mono ?_
  rintro e w1 ⟨k', v, hst', rfl, hown, hb1⟩
  obtain rfl := hst'.same HS.out
  obtain ⟨Av, cv, rfl, hcv⟩ : ∃ Av cv, v = .slice Av k' cv ∧ cv ≤ 9223372036854775807 := by
    rcases hown.2 with ⟨e1, e2⟩ | ⟨g, c, cur, e1, -, -, -, hle, -⟩
    · subst e2
      exact ⟨_, _, e1, by omega⟩
    · unfold maxLen at hle
      exact ⟨_, _, e1, hle⟩
  have HO := Lib.hid hown
  have HB := Lib.hid hb1
  clear hown hb1 hst'
  go_wp2
  go_loopw [5, 15] (fun ts ti wr => ∃ j : Nat, j ≤ k' ∧ ti = .int .i64 (j : Int) ∧ ts = .int .i64 (sumT (opsL xs j)) ∧ wr.ownsRow w.heap.size 24 6 (.slice Av k' cv) k' (rowCs (opsL xs k')) ∧ Below w.heap.size w wr) (fun _ ti _ => k' - (intOf ti).toNat)
  case atStart => exact ⟨0, Nat.zero_le _, rfl, rfl, HO.out, HB.out⟩
  case round =>
    clear HO HB
    obtain ⟨j, hj, rfl, rfl, hown, hBr⟩ := hrel
    by_cases hlt : j < k'
    · have hoj := opsL_take xs k' j hlt
      have hsu := Lib.hid (show sumT (opsL xs (j + 1)) = wrap64 (sumT (opsL xs j) + ofM (opK xs j).plane (opK xs j).code (opK xs j).skip false) by rw [opsL_succ, sumT_snoc])
      obtain ⟨g, hAv⟩ : ∃ g, Av = some ⟨g, 0, none⟩ := by
        rcases hown.2 with ⟨-, e2⟩ | ⟨g, c, cur, e1, -⟩
        · omega
        · exact ⟨g, by injection e1⟩
      subst hAv
      have hgl : g < wr.heap.size := (hown.lt g rfl).2
      obtain ⟨l0, l1, l2, l3, l4, l5⟩ := rowCs_cells (opsL_length xs k') hown j hlt _ hoj
      have hj1 : (j : Int) < (k' : Int) := by omega
      have hj0 : (0 : Int) ≤ (j : Int) := by omega
      have hown2 := Lib.hid (hown.alloc (.cells #[.int .i64 (opK xs j).plane, .int .u8 (opK xs j).code, .int .u8 (opK xs j).disp, .int .u16 (opK xs j).imm, .int .i64 (opK xs j).len, .int .i64 (opK xs j).skip] 24))
      have HBr := Lib.hid (hBr.alloc hBr.size (.cells #[.int .i64 (opK xs j).plane, .int .u8 (opK xs j).code, .int .u8 (opK xs j).disp, .int .u16 (opK xs j).imm, .int .i64 (opK xs j).len, .int .i64 (opK xs j).skip] 24))
      have ko := Lib.hid (KO.out j hlt)
      generalize sumT (opsL xs j) = S1 at *
      generalize ofM (opK xs j).plane (opK xs j).code (opK xs j).skip false = n at *
      clear hown hBr hoj
      generalize opK xs j = o at *
      obtain ⟨pl, co, di, im, le, sk⟩ := o
      go_wp2_with (go_at_call 9; refine (ko.out _ HBr.out).mono ?_; rintro e w3 ⟨rfl, hb3⟩; have HB3 := Lib.hid (HBr.out.trans (hb3.mono HBr.out.size)); have hown3 := Lib.hid (own_below hown2.out hb3))
      go_roundw
      case rel => exact ⟨j + 1, by omega, by go_num, by rw [hsu.out], hown3.out, HB3.out⟩
      case measure => simp [intOf]; omega
    · obtain rfl : j = k' := by omega
      go_wp2
      go_ret
      exact ⟨rfl, hBr⟩
set_option maxHeartbeats 4000000 in
theorem rTimesAll_any (ad : Option Addr) (cap : Nat) (xs : List Int) (hl : xs.length ≤ 4096) (hc : xs.length ≤ cap) (hx : Bytes8 xs) (k : Nat) (hst : Stops xs k) (w : World) (h : BytesIn w w.heap.size ad xs) :
    Calls Tryd.prog 14 #[.slice ad xs.length cap] w fun e W' => e = .returned (.int .i64 (sumT (opsL xs k))) ∧ Below w.heap.size w W' := by
  have A1 := Lib.hid (rall_any ad cap xs hl hc hx w h)
  have KO := Lib.hid (fun (j : Nat) (hj : j < k) W => rTimesOf_any (opK xs j).plane (opK xs j).code (opK xs j).disp (opK xs j).imm (opK xs j).len (opK xs j).skip false (opK_code xs hx j) W)
  have hk4 := (hst.1).pos
  clear h hx
  have HS := Lib.hid hst
  clear hst
  go_enter Tryd.func14, Tryd.ntmps14
  go_wp2_with fail
  refine A1.out.mono ?_
  rintro e w1 ⟨k', v, hst', rfl, hown, hb1⟩
  obtain rfl := hst'.same HS.out
  obtain ⟨Av, cv, rfl, hcv⟩ : ∃ Av cv, v = .slice Av k' cv ∧ cv ≤ 9223372036854775807 := by
    rcases hown.2 with ⟨e1, e2⟩ | ⟨g, c, cur, e1, -, -, -, hle, -⟩
    · subst e2
      exact ⟨_, _, e1, by omega⟩
    · unfold maxLen at hle
      exact ⟨_, _, e1, hle⟩
  have HO := Lib.hid hown
  have HB := Lib.hid hb1
  clear hown hb1 hst'
  go_wp2
  go_loopw [5, 6] (fun ts ti wr => ∃ j : Nat, j ≤ k' ∧ ti = .int .i64 (j : Int) ∧ ts = .int .i64 (sumT (opsL xs j)) ∧ wr.ownsRow w.heap.size 24 6 (.slice Av k' cv) k' (rowCs (opsL xs k')) ∧ Below w.heap.size w wr) (fun _ ti _ => k' - (intOf ti).toNat)
  case atStart => exact ⟨0, Nat.zero_le _, rfl, rfl, HO.out, HB.out⟩
  case round =>
    clear HO HB
    obtain ⟨j, hj, rfl, rfl, hown, hBr⟩ := hrel
    by_cases hlt : j < k'
    · have hoj := opsL_take xs k' j hlt
      have hsu := Lib.hid (show sumT (opsL xs (j + 1)) = wrap64 (sumT (opsL xs j) + ofM (opK xs j).plane (opK xs j).code (opK xs j).skip false) by rw [opsL_succ, sumT_snoc])
      obtain ⟨g, hAv⟩ : ∃ g, Av = some ⟨g, 0, none⟩ := by
        rcases hown.2 with ⟨-, e2⟩ | ⟨g, c, cur, e1, -⟩
        · omega
        · exact ⟨g, by injection e1⟩
      subst hAv
      have hgl : g < wr.heap.size := (hown.lt g rfl).2
      obtain ⟨l0, l1, l2, l3, l4, l5⟩ := rowCs_cells (opsL_length xs k') hown j hlt _ hoj
      have hj1 : (j : Int) < (k' : Int) := by omega
      have hj0 : (0 : Int) ≤ (j : Int) := by omega
      have hown2 := Lib.hid hown
      have HBr := Lib.hid hBr
      have ko := Lib.hid (KO.out j hlt)
      generalize sumT (opsL xs j) = S1 at *
      generalize ofM (opK xs j).plane (opK xs j).code (opK xs j).skip false = n at *
      clear hown hBr hoj
      generalize opK xs j = o at *
      obtain ⟨pl, co, di, im, le, sk⟩ := o
      go_wp2_with (go_at_call 10; refine (ko.out _).mono ?_; rintro e w3 ⟨rfl, hb3⟩; have HB3 := Lib.hid (HBr.out.trans (hb3.mono HBr.out.size)); have hown3 := Lib.hid (own_below hown2.out hb3))
      go_roundw
      case rel => exact ⟨j + 1, by omega, by go_num, by rw [hsu.out], hown3.out, HB3.out⟩
      case measure => simp [intOf]; omega
    · obtain rfl : j = k' := by omega
      go_wp2
      go_ret
      exact ⟨rfl, hBr⟩
end Go.Proofs.YtlmeekaemhghgaaDoor
