/- Layer 8 (decode): the document's All and Same: contracts; the walk of the law of Next. -/
import Derived.Test.YtjmmhfkjmeblnaaDecodeRef
import Derived.Test.YtjmmhfkjmeblnaaDecodeSums
import Derived.Maps.AppendAt
namespace Go.Proofs.Ytjmmhfkjmeblnaa
open Go.RowKit
set_option linter.unusedVariables false
set_option linter.unusedSimpArgs false

set_option maxHeartbeats 4000000 in
theorem rall_any (ad : Option Addr) (cap : Nat) (xs : List Int) (hl : xs.length ≤ 4096) (hc : xs.length ≤ cap) (hx : Bytes8 xs) (w : World) (h : BytesIn w w.heap.size ad xs) :
    Calls Try.prog 18 #[.slice ad xs.length cap] w fun e W' => ∃ k v, Stops xs k ∧ e = .returned (.tuple #[v, .int .i64 ((xs.length : Int) - (posM xs k : Int))]) ∧ W'.ownsRow w.heap.size 30 6 v k (rowCs (opsL xs k)) ∧ Below w.heap.size w W' := by
  obtain ⟨i0, hi0, hz0, hz1, hz2⟩ := info_parts op_info
  go_enter Try.func18, Try.ntmps18
  go_wp2
  go_loopw [0, 4] (fun tb tv wr => ∃ (k : Nat) (A : Option Addr) (m : Nat), Runs xs k ∧ tb = .slice A (xs.drop (posM xs k)).length m ∧ (xs.drop (posM xs k)).length ≤ m ∧ BytesIn wr w.heap.size A (xs.drop (posM xs k)) ∧
      wr.ownsRow w.heap.size 30 6 tv k (rowCs (opsL xs k)) ∧ Below w.heap.size w wr) (fun tb _ _ => lenV tb)
  case atStart => exact ⟨0, ad, cap, Runs.zero xs, rfl, hc, h, World.ownsRow_nil _ _ _ _, Below.refl _ _⟩
  case round =>
    obtain ⟨k, A, m, hr, rfl, hm, hbk, hown, hBr⟩ := hrel
    have hp := hr.pos
    have hsz := hBr.size
    have hyl : (xs.drop (posM xs k)).length ≤ 140737488355328 := by rw [List.length_drop]; omega
    have hst := Lib.hid (show okM (xs.drop (posM xs k)) = false → Stops xs k from fun ho => ⟨hr, ho⟩)
    have hsu := Lib.hid (show okM (xs.drop (posM xs k)) = true → Runs xs (k + 1) from fun ho => hr.succ ho)
    have hdr := Lib.hid (drop_posM xs k)
    have hop := Lib.hid (show opsL xs (k + 1) = opsL xs k ++ [opOf (xs.drop (posM xs k))] from opsL_succ xs k)
    have hxy := hx.drop (posM xs k)
    have hol := Lib.hid (opsL_length xs k)
    have hyq := Lib.hid (show ((xs.drop (posM xs k)).length : Int) = (xs.length : Int) - (posM xs k : Int) by rw [List.length_drop]; omega)
    have hk4 : k ≤ 4096 := by omega
    generalize xs.drop (posM xs k) = ys at *
    have hnx := Lib.hid (rnext_any A m ys hyl hxy wr (hbk.more (by omega)))
    have hown := Lib.hid hown
    clear hr
    cases ho : okM ys with
    | false =>
      rw [ho] at hnx
      have hst' := hst.out ho
      have hno := (okM_no ho).2
      rw [hno] at hnx
      clear ho hno
      go_wp2_with fail
      refine hnx.out.mono ?_
      rintro e w' ⟨rfl, hbw⟩
      have hB' := hBr.trans (hbw.mono hsz)
      have hown' := Lib.hid ((own_below hown.out hbw).alloc (.cells zeroC 30))
      go_wp2
      go_ret2
      exact ⟨k, _, hst', by rw [← hyq.out]; rfl, hown'.out, hB'.alloc hB'.size _⟩
    | true =>
      rw [ho] at hnx
      have hrun := hsu.out ho
      have hle := ok_len ho
      have hpos := lead_lt_len ys
      have hlen := lenOf_eq ys
      rw [(okM_yes ho).2] at hnx
      generalize opOf ys = o at *
      generalize lenOf ys = L0 at *
      obtain ⟨pl, co, di, im, le, sk⟩ := o
      obtain rfl : le = (L0 : Int) := hlen
      clear ho
      obtain ⟨p, rfl, hpB, -⟩ := hbk.at_ (k := 0) (by omega)
      go_wp2_with fail
      refine hnx.out.mono ?_
      rintro e w' ⟨rfl, hbw⟩
      have hB' := hBr.trans (hbw.mono hsz)
      have hB2 := (hB'.alloc hB'.size (.cells #[.int .i64 pl, .int .u8 co, .int .u8 di, .int .u16 im, .int .i64 (L0 : Int), .int .i64 sk] 30)).alloc (by have := hB'.size; simp; omega) (.cells #[.int .i64 pl, .int .u8 co, .int .u8 di, .int .u16 im, .int .i64 (L0 : Int), .int .i64 sk] 30)
      have ownA := ((own_below hown.out hbw).alloc (.cells #[.int .i64 pl, .int .u8 co, .int .u8 di, .int .u16 im, .int .i64 (L0 : Int), .int .i64 sk] 30)).alloc (.cells #[.int .i64 pl, .int .u8 co, .int .u8 di, .int .u16 im, .int .i64 (L0 : Int), .int .i64 sk] 30)
      have hnews := cells_list_new (w'.alloc (.cells #[.int .i64 pl, .int .u8 co, .int .u8 di, .int .u16 im, .int .i64 (L0 : Int), .int .i64 sk] 30)) [.int .i64 pl, .int .u8 co, .int .u8 di, .int .u16 im, .int .i64 (L0 : Int), .int .i64 sk] 30
      rw [World.size_alloc] at hnews
      have hws : w.heap.size ≤ w'.heap.size + 1 + 1 := by have := hB'.size; omega
      have hro := Lib.hid ((Row.new w' 30 #[.int .i64 pl, .int .u8 co, .int .u8 di, .int .u16 im, .int .i64 (L0 : Int), .int .i64 sk]).alloc (.cells #[.int .i64 pl, .int .u8 co, .int .u8 di, .int .u16 im, .int .i64 (L0 : Int), .int .i64 sk] 30))
      have hvlt := Lib.hid (fun b hb => (own_below hown.out hbw).lt b hb)
      by_cases hmL : m = L0
      all_goals
        go_wp2_with (at_builtin; refine wpList_append_own_at _ rfl (.tmp 17) (.tmp 19) _ rfl w.heap.size 30 i0 _ 6 32 Try.underlying33 hi0 hz0 hz1 hz2 rfl (by omega) u4 k (rowCs (opsL xs k)) rfl ownA ⟨w'.heap.size + 1, 0, none⟩ 1 1 [.int .i64 pl, .int .u8 co, .int .u8 di, .int .u16 im, .int .i64 (L0 : Int), .int .i64 sk] rfl rfl hnews (by intro u hu; simp at hu; rcases hu with rfl | rfl | rfl | rfl | rfl | rfl <;> rfl) (by simp only [maxLen]; omega) (by omega) (by simp; omega) ?_; intro v1 w4 hown4 hg4 hni4 hat4; have hr4 : Row w4 w'.heap.size 30 #[.int .i64 pl, .int .u8 co, .int .u8 di, .int .u16 im, .int .i64 (L0 : Int), .int .i64 sk] := (hg4.block w'.heap.size (by simp; omega) (fun e => by have := (hvlt.out _ e.symm).2; omega)).trans hro.out; obtain ⟨⟨c0, c1, c2, c3, c4, c5⟩, f⟩ := row6 hr4)
        have B4 := grown_below hB2 hg4 ownA (Nat.le_refl _)
        have hb4 := hbk.keep fun b hb => (B4.block b hb).trans (hBr.block b hb).symm
        have own4 : w4.ownsRow w.heap.size 30 6 v1 (k + 1) (rowCs (opsL xs (k + 1))) := by
          rw [hop.out, rowCs_snoc]
          exact hown4
        go_roundw
        case measure =>
          show ys.length - L0 < ys.length
          omega
      · exact ⟨k + 1, some p, 0, hrun, by rw [hdr.out, List.length_drop], by rw [hdr.out, List.length_drop]; omega, by rw [hdr.out, List.drop_eq_nil_of_le (by omega)]; exact BytesIn.nil _ _ _, own4, B4⟩
      · have hb5 := hb4.drop (k := L0) (cap := m) hle (by omega)
        rw [if_neg hmL] at hb5
        exact ⟨k + 1, some (p.add L0), m - L0, hrun, by rw [hdr.out, List.length_drop], by rw [hdr.out, List.length_drop]; omega, by rw [hdr.out]; exact hb5, own4, B4⟩
set_option maxHeartbeats 4000000 in
theorem rsame_any (A B : Option Addr) (k c d : Nat) (l : List OpM) (hl : l.length = k) (hk : k ≤ 4096) (b1 b2 : Nat) (w : World) (ha : w.ownsRow b1 30 6 (.slice A k c) k (rowCs l)) (hb : w.ownsRow b2 30 6 (.slice B k d) k (rowCs l)) :
    Calls Try.prog 19 #[.slice A k c, .slice B k d] w fun e w' => e = .returned (.bool true) ∧ Below w.heap.size w w' := by
  have HA := Lib.hid ha
  have HB := Lib.hid hb
  clear ha hb
  go_enter Try.func19, Try.ntmps19
  go_wp2
  go_loopw [5] (fun ti wr => ∃ j n : Nat, j ≤ k ∧ ti = .int .i64 (j : Int) ∧ wr = w.drewN n) (fun ti _ => k - (intOf ti).toNat)
  case atStart => exact ⟨0, 0, Nat.zero_le _, rfl, rfl⟩
  case round =>
    obtain ⟨j, n, hj, rfl, rfl⟩ := hrel
    by_cases hlt : j < k
    · obtain ⟨g, rfl⟩ : ∃ g, A = some ⟨g, 0, none⟩ := by
        rcases HA.out.2 with ⟨-, e2⟩ | ⟨g, c, cur, e1, -⟩
        · omega
        · exact ⟨g, by injection e1⟩
      obtain ⟨g2, rfl⟩ : ∃ g, B = some ⟨g, 0, none⟩ := by
        rcases HB.out.2 with ⟨-, e2⟩ | ⟨g, c, cur, e1, -⟩
        · omega
        · exact ⟨g, by injection e1⟩
      have ho : l[j]? = some l[j] := List.getElem?_eq_getElem (by omega)
      obtain ⟨l0, l1, l2, l3, l4, l5⟩ := rowCs_cells hl HA.out j hlt _ ho
      obtain ⟨m0, m1, m2, m3, m4, m5⟩ := rowCs_cells hl HB.out j hlt _ ho
      clear ho
      generalize l[j] = o at *
      obtain ⟨pl, co, di, im, le, sk⟩ := o
      have hj1 : (j : Int) < (k : Int) := by omega
      have hj0 : (0 : Int) ≤ (j : Int) := by omega
      go_upto_region 6 with (fail)
      go_quiet (fail)
      go_wp2
      go_roundw
      case rel => exact ⟨j + 1, _, by omega, by go_num, rfl⟩
      case measure => simp [intOf]; omega
    · obtain rfl : j = k := by omega
      go_wp2
      go_ret
      exact ⟨rfl, bel_drewN (Below.refl _ _) _⟩
set_option maxHeartbeats 4000000 in
theorem decodeNext_long (A : Option Addr) (cap : Nat) (xs : List Int) (hl : 300 < xs.length) (w : World) :
    Calls Try.prog 4 #[.slice A xs.length cap] w fun e w' => e = .returned (.bool true) ∧ Below w.heap.size w w' := by
  go_enter Try.func4, Try.ntmps4
  go_wp2_with (first
    | (go_at_call 8; refine (dawake_any _).mono ?_; rintro e w' ⟨rfl, hb⟩; have hsz := hb.size))
  go_ret
  exact ⟨rfl, (by repeat (first | exact Below.refl _ _ | assumption | refine bstep ?_ (by assumption) | refine Below.drew ?_ | refine Below.alloc ?_ (by first | (simp; done) | (simp; omega) | omega) _ | refine Below.setCell ?_ (by first | (simp; done) | (simp; omega) | omega) _))⟩
set_option maxHeartbeats 4000000 in
theorem decodeNext_walk (A : Option Addr) (cap : Nat) (xs : List Int) (w : World) (hc : xs.length ≤ cap) (hm : cap ≤ maxLen) (hx : Bytes8 xs) (hb : BytesIn w w.heap.size A xs) (hn : A = none → cap = 0) :
    Calls Try.prog 4 #[.slice A xs.length cap] w fun e w' => e = .returned (.bool true) ∧ Below w.heap.size w w' := by
  by_cases h300 : 300 < xs.length
  · exact decodeNext_long A cap xs h300 w
  have hl : xs.length ≤ 300 := by omega
  have N1 := Lib.hid (fun (W : World) (B : Below w.heap.size w W) => next_any A cap xs (by omega) hx W ((hb.below B).more B.size))
  have N2 := Lib.hid (fun (W : World) (B : Below w.heap.size w W) => rnext_any A cap xs (by omega) hx W ((hb.below B).more B.size))
  have A1 := Lib.hid (fun (W : World) (B : Below w.heap.size w W) => all_any A cap xs (by omega) hc hx W ((hb.below B).more B.size))
  have A2 := Lib.hid (fun (W : World) (B : Below w.heap.size w W) => rall_any A cap xs (by omega) hc hx W ((hb.below B).more B.size))
  clear h300 hm hx hb hn
  generalize nextO xs = o at *
  generalize okM xs = ok at *
  obtain ⟨pl, co, di, im, le, sk⟩ := o
  go_enter Try.func4, Try.ntmps4
  go_wp2_with fail
  refine (dawake_any _).mono ?_
  rintro e w1 ⟨rfl, B1⟩
  go_wp2_with fail
  refine (N1.out _ B1).mono ?_
  rintro e w2 ⟨rfl, hb2⟩
  have B2 := B1.trans (hb2.mono B1.size)
  have B2' := B2.alloc B2.size (.cells #[.int .i64 pl, .int .u8 co, .int .u8 di, .int .u16 im, .int .i64 le, .int .i64 sk] 30)
  have r2 := Row.new w2 30 #[.int .i64 pl, .int .u8 co, .int .u8 di, .int .u16 im, .int .i64 le, .int .i64 sk]
  go_wp2_with fail
  refine (N2.out _ B2').mono ?_
  rintro e w3 ⟨rfl, hb3⟩
  have B3 := B2'.trans (hb3.mono B2'.size)
  have B3' := B3.alloc B3.size (.cells #[.int .i64 pl, .int .u8 co, .int .u8 di, .int .u16 im, .int .i64 le, .int .i64 sk] 30)
  have r3 := (r2.below hb3 r2.lt).alloc (.cells #[.int .i64 pl, .int .u8 co, .int .u8 di, .int .u16 im, .int .i64 le, .int .i64 sk] 30)
  have s3 := Row.new w3 30 #[.int .i64 pl, .int .u8 co, .int .u8 di, .int .u16 im, .int .i64 le, .int .i64 sk]
  go_wp2_with fail
  refine (A1.out _ B3').mono ?_
  rintro e w4 ⟨k, v, hst, rfl, own4, hb4⟩
  have B4 := B3'.trans (hb4.mono B3'.size)
  have r4 := r3.below hb4 r3.lt
  have s4 := s3.below hb4 s3.lt
  go_wp2_with fail
  refine (A2.out _ B4).mono ?_
  rintro e w5 ⟨k2, v2, hst2, rfl, own5, hb5⟩
  obtain rfl := hst2.same hst
  have B5 := B4.trans (hb5.mono B4.size)
  have r5 := r4.below hb5 r4.lt
  have s5 := s4.below hb5 s4.lt
  have own4' := own_below own4 hb5
  have hp := hst.1.pos
  obtain ⟨Av, cv, rfl⟩ : ∃ Av cv, v = .slice Av k2 cv := by
    rcases own4.2 with ⟨e1, e2⟩ | ⟨g, c, cur, e1, -⟩
    · subst e2
      exact ⟨_, _, e1⟩
    · exact ⟨_, _, e1⟩
  obtain ⟨Av2, cv2, rfl⟩ : ∃ Av cv, v2 = .slice Av k2 cv := by
    rcases own5.2 with ⟨e1, e2⟩ | ⟨g, c, cur, e1, -⟩
    · subst e2
      exact ⟨_, _, e1⟩
    · exact ⟨_, _, e1⟩
  have hS := Lib.hid (rsame_any Av Av2 k2 cv cv2 _ (opsL_length xs k2) (by omega) _ _ w5 own4' own5)
  obtain ⟨⟨c0, c1, c2, c3, c4, c5⟩, f⟩ := row6 r5
  obtain ⟨⟨d0, d1, d2, d3, d4, d5⟩, g⟩ := row6 s5
  have B5h := Lib.hid B5
  clear r2 r3 r4 r5 s3 s4 s5 own4 own4' own5 hst hst2 B1 B2 B2' B3 B3' B4 B5
  go_wp2_with (go_at_call 19; refine hS.out.mono ?_; rintro e w6 ⟨rfl, hb6⟩)
  all_goals
    go_ret
    exact ⟨rfl, B5h.out.trans (hb6.mono B5h.out.size)⟩
end Go.Proofs.Ytjmmhfkjmeblnaa
