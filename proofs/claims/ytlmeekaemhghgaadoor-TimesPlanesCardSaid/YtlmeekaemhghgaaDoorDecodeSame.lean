/- Layer 8 (decode): the document's All and Same: contracts; the walk of the law of Next. -/
import Derived.Test.YtlmeekaemhghgaaDoorDecodeRef
import Derived.Test.YtlmeekaemhghgaaDoorDecodeSums
import Derived.Maps.AppendAt
namespace Go.Proofs.YtlmeekaemhghgaaDoor
open Go.RowKit
set_option linter.unusedVariables false
set_option linter.unusedSimpArgs false

set_option maxHeartbeats 4000000 in
theorem rall_any (ad : Option Addr) (cap : Nat) (xs : List Int) (hl : xs.length ≤ 4096) (hc : xs.length ≤ cap) (hx : Bytes8 xs) (w : World) (h : BytesIn w w.heap.size ad xs) :
    Calls Tryd.prog 17 #[.slice ad xs.length cap] w fun e W' => ∃ k v, Stops xs k ∧ e = .returned (.tuple #[v, .int .i64 ((xs.length : Int) - (posM xs k : Int))]) ∧ W'.ownsRow w.heap.size 24 6 v k (rowCs (opsL xs k)) ∧ Below w.heap.size w W' := by
  obtain ⟨i0, hi0, hz0, hz1, hz2⟩ := info_parts op_info
  go_enter Tryd.func17, Tryd.ntmps17
  go_wp2
  go_loopw [0, 4] (fun tb tv wr => ∃ (k : Nat) (A : Option Addr) (m : Nat), Runs xs k ∧ tb = .slice A (xs.drop (posM xs k)).length m ∧ (xs.drop (posM xs k)).length ≤ m ∧ BytesIn wr w.heap.size A (xs.drop (posM xs k)) ∧
      wr.ownsRow w.heap.size 24 6 tv k (rowCs (opsL xs k)) ∧ Below w.heap.size w wr) (fun tb _ _ => lenV tb)
  case atStart => exact ⟨0, ad, cap, Runs.zero xs, rfl, hc, h, World.ownsRow_nil _ _ _ _, Below.refl _ _⟩
  case round =>
    obtain ⟨k, A, m, hr, rfl, hm, hbk, hown, hBr⟩ := hrel
    have hp := hr.pos
    have hsz := hBr.size
    have hyl : (xs.drop (posM xs k)).length ≤ 140737488355328 := by rw [List.length_drop]; omega
    have hst := Lib.hid (show okM (xs.drop (posM xs k)) = false → Stops xs k from fun ho => ⟨hr, ho⟩)
    have hsu := Lib.hid (show okM (xs.drop (posM xs k)) = true → Runs xs (k + 1) from fun ho => hr.succ ho)
    have hdr := Lib.hid (drop_posM xs k)
    have hop := Lib.hid (show opsL xs (k + 1) = opsL xs k ++ [opOf (xs.drop (posM xs k))] from opsL_succ xs k)
    have hxy := hx.drop (posM xs k)
    have hol := Lib.hid (opsL_length xs k)
    have hyq := Lib.hid (show ((xs.drop (posM xs k)).length : Int) = (xs.length : Int) - (posM xs k : Int) by rw [List.length_drop]; omega)
    have hk4 : k ≤ 4096 := by omega
    generalize xs.drop (posM xs k) = ys at *
    have hnx := Lib.hid (rnext_any A m ys hyl hxy wr (hbk.more (by omega)))
    have hown := Lib.hid hown
    clear hr
    cases ho : okM ys with
    | false =>
      rw [ho] at hnx
      have hst' := hst.out ho
      have hno := (okM_no ho).2
      rw [hno] at hnx
      clear ho hno
      go_wp2_with fail
      refine hnx.out.mono ?_
      rintro e w' ⟨rfl, hbw⟩
      have hB' := hBr.trans (hbw.mono hsz)
      have hown' := Lib.hid ((own_below hown.out hbw).alloc (.cells zeroC 24))
      go_wp2
      go_ret2
      exact ⟨k, _, hst', by rw [← hyq.out]; rfl, hown'.out, hB'.alloc hB'.size _⟩
    | true =>
      rw [ho] at hnx
      have hrun := hsu.out ho
      have hle := ok_len ho
      have hpos := lead_lt_len ys
      have hlen := lenOf_eq ys
      rw [(okM_yes ho).2] at hnx
      generalize opOf ys = o at *
      generalize lenOf ys = L0 at *
      obtain ⟨pl, co, di, im, le, sk⟩ := o
      obtain rfl : le = (L0 : Int) := hlen
      clear ho
      obtain ⟨p, rfl, hpB, -⟩ := hbk.at_ (k := 0) (by omega)
      go_wp2_with fail
      refine hnx.out.mono ?_
      rintro e w' ⟨rfl, hbw⟩
      have hB' := hBr.trans (hbw.mono hsz)
      have hB2 := (hB'.alloc hB'.size (.cells #[.int .i64 pl, .int .u8 co, .int .u8 di, .int .u16 im, .int .i64 (L0 : Int), .int .i64 sk] 24)).alloc (by have := hB'.size; simp; omega) (.cells #[.int .i64 pl, .int .u8 co, .int .u8 di, .int .u16 im, .int .i64 (L0 : Int), .int .i64 sk] 24)
      have ownA := ((own_below hown.out hbw).alloc (.cells #[.int .i64 pl, .int .u8 co, .int .u8 di, .int .u16 im, .int .i64 (L0 : Int), .int .i64 sk] 24)).alloc (.cells #[.int .i64 pl, .int .u8 co, .int .u8 di, .int .u16 im, .int .i64 (L0 : Int), .int .i64 sk] 24)
      have hnews := cells_list_new (w'.alloc (.cells #[.int .i64 pl, .int .u8 co, .int .u8 di, .int .u16 im, .int .i64 (L0 : Int), .int .i64 sk] 24)) [.int .i64 pl, .int .u8 co, .int .u8 di, .int .u16 im, .int .i64 (L0 : Int), .int .i64 sk] 24
      rw [World.size_alloc] at hnews
      have hws : w.heap.size ≤ w'.heap.size + 1 + 1 := by have := hB'.size; omega
      have hro := Lib.hid ((Row.new w' 24 #[.int .i64 pl, .int .u8 co, .int .u8 di, .int .u16 im, .int .i64 (L0 : Int), .int .i64 sk]).alloc (.cells #[.int .i64 pl, .int .u8 co, .int .u8 di, .int .u16 im, .int .i64 (L0 : Int), .int .i64 sk] 24))
      have hvlt := Lib.hid (fun b hb => (own_below hown.out hbw).lt b hb)
      by_cases hmL : m = L0
      all_goals
        go_wp2_with (at_builtin; refine wpList_append_own_at _ rfl (.tmp 17) (.tmp 19) _ rfl w.heap.size 24 i0 _ 6 32 Tryd.underlying36 hi0 hz0 hz1 hz2 rfl (by omega) u4 k (rowCs (opsL xs k)) rfl ownA ⟨w'.heap.size + 1, 0, none⟩ 1 1 [.int .i64 pl, .int .u8 co, .int .u8 di, .int .u16 im, .int .i64 (L0 : Int), .int .i64 sk] rfl rfl hnews (by intro u hu; simp at hu; rcases hu with rfl | rfl | rfl | rfl | rfl | rfl <;> rfl) (by simp only [maxLen]; omega) (by omega) (by simp; omega) ?_; intro v1 w4 hown4 hg4 hni4 hat4; have hr4 : Row w4 w'.heap.size 24 #[.int .i64 pl, .int .u8 co, .int .u8 di, .int .u16 im, .int .i64 (L0 : Int), .int .i64 sk] := (hg4.block w'.heap.size (by simp; omega) (fun e => by have := (hvlt.out _ e.symm).2; omega)).trans hro.out; obtain ⟨⟨c0, c1, c2, c3, c4, c5⟩, f⟩ := row6 hr4)
        have B4 := grown_below hB2 hg4 ownA (Nat.le_refl _)
        have hb4 := hbk.keep fun b hb => (B4.block b hb).trans (hBr.block b hb).symm
        have own4 : w4.ownsRow w.heap.size 24 6 v1 (k + 1) (rowCs (opsL xs (k + 1))) := by
          rw [hop.out, rowCs_snoc]
          exact hown4
        go_roundw
        case measure =>
          show ys.length - L0 < ys.length
          omega
      · exact ⟨k + 1, some p, 0, hrun, by rw [hdr.out, List.length_drop], by rw [hdr.out, List.length_drop]; omega, by rw [hdr.out, List.drop_eq_nil_of_le (by omega)]; exact BytesIn.nil _ _ _, own4, B4⟩
      · have hb5 := hb4.drop (k := L0) (cap := m) hle (by omega)
        rw [if_neg hmL] at hb5
        exact ⟨k + 1, some (p.add L0), m - L0, hrun, by rw [hdr.out, List.length_drop], by rw [hdr.out, List.length_drop]; omega, by rw [hdr.out]; exact hb5, own4, B4⟩
end Go.Proofs.YtlmeekaemhghgaaDoor
