/- Layer 8 (decode): the walk of the law of sums of lengths. -/
import Derived.Test.YtjmmhfkjmeblnaaDecodeAwake
import Derived.BigQuiet
import Derived.Deep.DeepCutAuto
import Derived.Deep.QuietTactic
namespace Go.Proofs.Ytjmmhfkjmeblnaa
open Go.RowKit
set_option linter.unusedVariables false
set_option linter.unusedSimpArgs false

theorem bel_drewN {B : Nat} {a w : World} (h : Below B a w) (n : Nat) : Below B a (w.drewN n) := ⟨h.os, h.tape, h.output, h.size, h.block⟩
/-- the row of instructions, cell by cell -/
theorem rowCs_cells {w : World} {b g k cap : Nat} {l : List OpM} (hl : l.length = k) (h : w.ownsRow b 30 6 (.slice (some ⟨g, 0, none⟩) k cap) k (rowCs l)) (j : Nat) (hj : j < k) (o : OpM) (ho : l[j]? = some o) :
    (w.cell? ⟨g, j * 6, none⟩ = some (.int .i64 o.plane) ∧ w.cell? ⟨g, j * 6 + 1, none⟩ = some (.int .u8 o.code) ∧ w.cell? ⟨g, j * 6 + 2, none⟩ = some (.int .u8 o.disp) ∧ w.cell? ⟨g, j * 6 + 3, none⟩ = some (.int .u16 o.imm) ∧ w.cell? ⟨g, j * 6 + 4, none⟩ = some (.int .i64 o.len) ∧ w.cell? ⟨g, j * 6 + 5, none⟩ = some (.int .i64 o.skip)) := by
  have key : ∀ (l : List OpM) (j : Nat) (o : OpM) (r : Nat), r < 6 → l[j]? = some o → (rowCs l)[j * 6 + r]? = (opCs o)[r]? := by
    intro l
    induction l with
    | nil => intro j o r _ h; simp at h
    | cons x l ih =>
      intro j o r hr h
      have e : rowCs (x :: l) = opCs x ++ rowCs l := by simp [rowCs]
      rw [e]
      cases j with
      | zero =>
        simp at h
        subst h
        rw [Nat.zero_mul, Nat.zero_add, List.getElem?_append_left (by simpa [opCs] using hr)]
      | succ j =>
        rw [List.getElem?_append_right (by simp [opCs]; omega), show (j + 1) * 6 + r - (opCs x).length = j * 6 + r by simp [opCs]; omega]
        exact ih j o r hr (by simpa using h)
  have hc : ∀ r, r < 6 → w.cell? ⟨g, j * 6 + r, none⟩ = (opCs o)[r]? := fun r hr => (h.cellAt (j * 6 + r) (by omega)).trans (key l j o r hr ho)
  exact ⟨hc 0 (by omega), hc 1 (by omega), hc 2 (by omega), hc 3 (by omega), hc 4 (by omega), hc 5 (by omega)⟩
set_option maxHeartbeats 4000000 in
theorem decodeSums_long (A : Option Addr) (cap : Nat) (xs : List Int) (hl : 300 < xs.length) (w : World) :
    Calls Try.prog 7 #[.slice A xs.length cap] w fun e w' => e = .returned (.bool true) ∧ Below w.heap.size w w' := by
  go_enter Try.func7, Try.ntmps7
  go_wp2_with (first
    | (go_at_call 8; refine (dawake_any _).mono ?_; rintro e w' ⟨rfl, hb⟩; have hsz := hb.size))
  go_ret
  exact ⟨rfl, (by repeat (first | exact Below.refl _ _ | assumption | refine bstep ?_ (by assumption) | refine Below.drew ?_ | refine Below.alloc ?_ (by first | (simp; done) | (simp; omega) | omega) _ | refine Below.setCell ?_ (by first | (simp; done) | (simp; omega) | omega) _))⟩
set_option maxHeartbeats 4000000 in
theorem decodeSums_walk (A : Option Addr) (cap : Nat) (xs : List Int) (w : World) (hc : xs.length ≤ cap) (hm : cap ≤ maxLen) (hx : Bytes8 xs) (hb : BytesIn w w.heap.size A xs) (hn : A = none → cap = 0) :
    Calls Try.prog 7 #[.slice A xs.length cap] w fun e w' => e = .returned (.bool true) ∧ Below w.heap.size w w' := by
  by_cases h300 : 300 < xs.length
  · exact decodeSums_long A cap xs h300 w
  have hl : xs.length ≤ 300 := by omega
  unfold maxLen at hm
  have HX := Lib.hid hx
  clear h300
  go_enter Try.func7, Try.ntmps7
  go_wp2_with fail
  refine (dawake_any _).mono ?_
  rintro e w1 ⟨rfl, hb1⟩
  go_wp2_with fail
  refine (all_any A cap xs (by omega) hc hx _ ((hb.below hb1).more hb1.size)).mono ?_
  rintro e w2 ⟨k, v, hst, rfl, hown, hb2⟩
  have hB2 : Below w.heap.size w w2 := hb1.trans (hb2.mono hb1.size)
  have hp := hst.1.pos
  obtain ⟨Av, cv, rfl, hcv⟩ : ∃ Av cv, v = .slice Av k cv ∧ cv ≤ 9223372036854775807 := by
    rcases hown.2 with ⟨e1, e2⟩ | ⟨g, c, cur, e1, -, -, -, hle, -⟩
    · subst e2
      exact ⟨_, _, e1, by omega⟩
    · unfold maxLen at hle
      exact ⟨_, _, e1, hle⟩
  have HO := Lib.hid hown
  have HB := Lib.hid hb
  have HS := Lib.hid hst
  clear hown hb hst hx
  go_wp2
  go_loopw [6, 7] (fun ta ti wr => ∃ j : Nat, j ≤ k ∧ ti = .int .i64 (j : Int) ∧ ta = .int .i64 (posM xs j : Int) ∧ wr.ownsRow w1.heap.size 30 6 (.slice Av k cv) k (rowCs (opsL xs k)) ∧ Below w.heap.size w wr) (fun _ ti _ => k - (intOf ti).toNat)
  case atStart => exact ⟨0, Nat.zero_le _, rfl, rfl, HO.out, hB2⟩
  case round =>
    obtain ⟨j, hj, rfl, rfl, hown, hBr⟩ := hrel
    have hrj : Runs xs j := fun i hi => HS.out.1 i (by omega)
    have hpj := hrj.pos
    by_cases hlt : j < k
    · have hok := HS.out.1 j hlt
      have hsu := Lib.hid (show posM xs (j + 1) = posM xs j + lenOf (xs.drop (posM xs j)) from rfl)
      have hoj : (opsL xs k)[j]? = some (opOf (xs.drop (posM xs j))) := by
        unfold opsL
        rw [List.getElem?_map, List.getElem?_range hlt]
        rfl
      have hle := ok_len hok
      have hps := lead_lt_len (xs.drop (posM xs j))
      have hlo := lenOf_eq (xs.drop (posM xs j))
      have hyn := (okM_yes hok).2
      rw [List.length_drop] at hle
      obtain ⟨p, rfl, hpb, -⟩ := HB.out.at_ (k := posM xs j) (by omega)
      have hbr : BytesIn wr w.heap.size (some p) xs := HB.out.below hBr
      have hbd := hbr.drop (k := posM xs j) (cap := cap) hpj.2 hc
      rw [if_neg (show ¬ cap = posM xs j by omega)] at hbd
      have hN := next_any (some (p.add (posM xs j))) (cap - posM xs j) (xs.drop (posM xs j)) (by rw [List.length_drop]; omega) (HX.out.drop _) wr (hbd.more hBr.size)
      rw [List.length_drop, hok, hyn] at hN
      have hN := Lib.hid hN
      clear hok hyn hbd hbr hpb
      generalize opOf (xs.drop (posM xs j)) = o at *
      generalize lenOf (xs.drop (posM xs j)) = L0 at *
      generalize posM xs j = q at *
      obtain ⟨pl, co, di, im, le, sk⟩ := o
      obtain rfl : le = (L0 : Int) := hlo
      obtain ⟨g, hAv⟩ : ∃ g, Av = some ⟨g, 0, none⟩ := by
        rcases hown.2 with ⟨-, e2⟩ | ⟨g, c, cur, e1, -⟩
        · omega
        · exact ⟨g, by injection e1⟩
      subst hAv
      have hcells := fun (W : World) (hW : W.ownsRow w1.heap.size 30 6 (.slice (some ⟨g, 0, none⟩) k cv) k (rowCs (opsL xs k))) => rowCs_cells (opsL_length xs k) hW j hlt _ hoj
      have hcells := Lib.hid hcells
      have hown := Lib.hid hown
      clear hoj
      go_wp2_with fail
      refine hN.out.mono ?_
      rintro e w3 ⟨rfl, hb3⟩
      have hown3 := Lib.hid (own_below hown.out hb3)
      obtain ⟨l0, l1, l2, l3, l4, l5⟩ := hcells.out w3 hown3.out
      go_upto_region 12 with (fail)
      have hgl : g < w3.heap.size := (hown3.out.lt g rfl).2
      have hj1 : (j : Int) < (k : Int) := by omega
      have hj0 : (0 : Int) ≤ (j : Int) := by omega
      go_quiet (fail)
      have hbo := hBr.trans (hb3.mono hBr.size)
      go_wp2
      go_roundw
      case rel => exact ⟨j + 1, by omega, by go_num, by rw [hsu.out, Int.natCast_add], hown3.out.alloc _, bel_drewN (hbo.alloc hbo.size _) _⟩
      case measure => simp [intOf]; omega
    · obtain rfl : j = k := by omega
      have hno := HS.out.2
      have hnz := (okM_no hno).2
      have hpos := hpj.2
      rcases A with _ | p
      · have hx0 : xs.length = 0 := by
          rcases Nat.eq_zero_or_pos xs.length with e | e
          · exact e
          · obtain ⟨ad, e2, -⟩ := HB.out.at_ e
            cases e2
        obtain rfl := hn rfl
        have hq0 : posM xs j = 0 := by omega
        have hN := next_any none 0 [] (by simp) (fun x hx => by simp at hx) wr (BytesIn.nil _ _ _)
        rw [hq0] at *
        obtain rfl : xs = [] := List.eq_nil_of_length_eq_zero hx0
        rw [show okM [] = false from rfl, show nextO [] = zeroOp from rfl] at hN
        have hN := Lib.hid hN
        clear hno hnz
        go_wp2_with fail
        refine hN.out.mono ?_
        rintro e w3 ⟨rfl, hb3⟩
        have hbo := hBr.trans (hb3.mono hBr.size)
        go_wp2
        go_ret
        exact ⟨rfl, hbo.alloc hbo.size _⟩
      · have hbd := (HB.out.below hBr).drop (k := posM xs j) (cap := cap) hpj.2 hc
        by_cases hcq : cap = posM xs j
        · rw [if_pos hcq] at hbd
          have hN := next_any (some p) (cap - posM xs j) (xs.drop (posM xs j)) (by rw [List.length_drop]; omega) (HX.out.drop _) wr (hbd.more hBr.size)
          have hlq : xs.length = posM xs j := by omega
          rw [List.length_drop, hno, hnz, hlq, hcq, Nat.sub_self] at hN
          have hN := Lib.hid hN
          clear hno hnz hbd
          generalize posM xs j = q at *
          subst hcq
          go_wp2_with fail
          refine hN.out.mono ?_
          rintro e w3 ⟨rfl, hb3⟩
          have hbo := hBr.trans (hb3.mono hBr.size)
          go_wp2
          go_ret
          exact ⟨rfl, hbo.alloc hbo.size _⟩
        · rw [if_neg hcq] at hbd
          have hN := next_any (some (p.add (posM xs j))) (cap - posM xs j) (xs.drop (posM xs j)) (by rw [List.length_drop]; omega) (HX.out.drop _) wr (hbd.more hBr.size)
          rw [List.length_drop, hno, hnz] at hN
          have hN := Lib.hid hN
          clear hno hnz hbd
          generalize posM xs j = q at *
          go_wp2_with fail
          refine hN.out.mono ?_
          rintro e w3 ⟨rfl, hb3⟩
          have hbo := hBr.trans (hb3.mono hBr.size)
          go_wp2
          go_ret
          exact ⟨rfl, hbo.alloc hbo.size _⟩
end Go.Proofs.Ytjmmhfkjmeblnaa
