/- Layer 8 (decode): the document's at, plane and Next: contracts. -/
import Derived.Test.YtlmeekaemhghgaaDoorDecodeNext
import Derived.Deep.DeepCutAuto
import Derived.StillTailTactics
namespace Go.Proofs.YtlmeekaemhghgaaDoor
open Go.RowKit
set_option linter.unusedVariables false
set_option linter.unusedSimpArgs false

set_option maxHeartbeats 1000000 in
theorem rat_any (ad : Option Addr) (cap : Nat) (xs : List Int) (hl : xs.length ≤ 140737488355328) (B : Nat) (k : Nat) (hk : k ≤ 281474976710656) (w : World) (h : BytesIn w B ad xs) :
    Calls Tryd.prog 36 #[.slice ad xs.length cap, .int .i64 (k : Int)] w fun e w' => e = .returned (.int .u8 (gb xs k)) ∧ w = w' := by
  rcases Nat.lt_or_ge k xs.length with hlt | hge
  · obtain ⟨p, rfl, hpB, hcell⟩ := h.at_ hlt
    clear h
    go_enter Tryd.func36, Tryd.ntmps36
    go_wp2
    go_ret
    exact ⟨ret_int (by unfold gb; rw [List.getD_eq_getElem?_getD, List.getElem?_eq_getElem hlt]; rfl), rfl⟩
  · have HG := Lib.hid (show gb xs k = 0 by unfold gb; rw [List.getD_eq_getElem?_getD, List.getElem?_eq_none hge]; rfl)
    clear h
    go_enter Tryd.func36, Tryd.ntmps36
    go_wp2
    go_ret
    exact ⟨ret_int HG.out.symm, rfl⟩
set_option maxHeartbeats 1000000 in
theorem rplane_0 (c : Int) (w : World) :
    Calls Tryd.prog 37 #[.int .u8 0, .int .u8 c] w fun e w' => e = .returned (.int .i64 (hPlane 0 c)) ∧ w = w' := by
  have h : hPlane 0 c = if c = 203 then withinM 0 else if c = 237 then 2 else 0 := rfl
  cases e2 : (c == 203) <;> cases e3 : (c == 237)
  all_goals
    have H := Lib.hid h
    clear h
    go_enter Tryd.func37, Tryd.ntmps37
    go_wp2
    go_ret
    refine ⟨ret_int ?_, rfl⟩
    rw [H.out]
    simp only [beq_iff_eq, beq_eq_false_iff_ne] at e2 e3
    first
    | (rw [if_pos (by assumption)]; rfl)
    | (rw [if_neg (by assumption), if_pos (by assumption)])
    | (rw [if_neg (by assumption), if_neg (by assumption)])
    | (exfalso; omega)
set_option maxHeartbeats 1000000 in
theorem rplane_221 (c : Int) (w : World) :
    Calls Tryd.prog 37 #[.int .u8 221, .int .u8 c] w fun e w' => e = .returned (.int .i64 (hPlane 3 c)) ∧ w = w' := by
  have h : hPlane 3 c = if c = 203 then withinM 3 else if c = 237 then 2 else 3 := rfl
  cases e2 : (c == 203) <;> cases e3 : (c == 237)
  all_goals
    have H := Lib.hid h
    clear h
    go_enter Tryd.func37, Tryd.ntmps37
    go_wp2
    go_ret
    refine ⟨ret_int ?_, rfl⟩
    rw [H.out]
    simp only [beq_iff_eq, beq_eq_false_iff_ne] at e2 e3
    first
    | (rw [if_pos (by assumption)]; rfl)
    | (rw [if_neg (by assumption), if_pos (by assumption)])
    | (rw [if_neg (by assumption), if_neg (by assumption)])
    | (exfalso; omega)
set_option maxHeartbeats 1000000 in
theorem rplane_253 (c : Int) (w : World) :
    Calls Tryd.prog 37 #[.int .u8 253, .int .u8 c] w fun e w' => e = .returned (.int .i64 (hPlane 4 c)) ∧ w = w' := by
  have h : hPlane 4 c = if c = 203 then withinM 4 else if c = 237 then 2 else 4 := rfl
  cases e2 : (c == 203) <;> cases e3 : (c == 237)
  all_goals
    have H := Lib.hid h
    clear h
    go_enter Tryd.func37, Tryd.ntmps37
    go_wp2
    go_ret
    refine ⟨ret_int ?_, rfl⟩
    rw [H.out]
    simp only [beq_iff_eq, beq_eq_false_iff_ne] at e2 e3
    first
    | (rw [if_pos (by assumption)]; rfl)
    | (rw [if_neg (by assumption), if_pos (by assumption)])
    | (rw [if_neg (by assumption), if_neg (by assumption)])
    | (exfalso; omega)
theorem opB_of (o : OpM) (L : Nat) {q code d imm sk : Int} (h1 : opV o.plane o.code o.disp o.imm 0 o.skip = opV q code d imm 0 sk) (h3 : o.len = (L : Int)) (l : Int) (hl : (L : Int) = l) : opB o true = .tuple #[opV q code d imm l sk, .bool true] := by
  obtain ⟨pl, co, di, im, le, sk'⟩ := o
  simp only [Value.agg.injEq, Array.mk.injEq, List.cons.injEq, Value.int.injEq, true_and, and_true] at h1
  obtain ⟨e1, e2, e3, e4, e5⟩ := h1
  simp only at h3
  subst hl
  subst e1 e2 e3 e4 e5 h3
  rfl
theorem sizeM_two (c : Int) : sizeM 2 c = 0 ∨ sizeM 2 c = 2 := by
  show sizeE c = 0 ∨ sizeE c = 2
  unfold sizeE
  split
  · exact .inr rfl
  · exact .inl rfl
/-- a world under way in the document's Next: all but the block of the instruction that is made, which is the second one of the call's own -/
structure Fb (w : World) (W : World) : Prop where
  row : Row W w.heap.size 24 zeroC
  bel : Below w.heap.size w W
theorem Fb.set {w W : World} (h : Fb w W) (i : Nat) (u : Value) : Fb w (W.setCell ⟨w.heap.size + 1, i, none⟩ u) :=
  { row := h.row.far (p := ⟨w.heap.size + 1, i, none⟩) (by show w.heap.size ≠ w.heap.size + 1; omega) u
    bel := h.bel.setCell (p := ⟨w.heap.size + 1, i, none⟩) (by show w.heap.size ≤ w.heap.size + 1; omega) u }
theorem Fb.six {w W : World} (h : Fb w W) (v0 v1 v2 v3 v4 v5 : Value) :
    Below w.heap.size w ((((((W.setCell ⟨w.heap.size, 0, none⟩ v0).setCell ⟨w.heap.size, 1, none⟩ v1).setCell ⟨w.heap.size, 2, none⟩ v2).setCell ⟨w.heap.size, 3, none⟩ v3).setCell ⟨w.heap.size, 4, none⟩ v4).setCell ⟨w.heap.size, 5, none⟩ v5) :=
  (((((h.bel.setCell (p := ⟨w.heap.size, 0, none⟩) (Nat.le_refl _) v0).setCell (p := ⟨w.heap.size, 1, none⟩) (Nat.le_refl _) v1).setCell (p := ⟨w.heap.size, 2, none⟩) (Nat.le_refl _) v2).setCell (p := ⟨w.heap.size, 3, none⟩) (Nat.le_refl _) v3).setCell (p := ⟨w.heap.size, 4, none⟩) (Nat.le_refl _) v4).setCell (p := ⟨w.heap.size, 5, none⟩) (Nat.le_refl _) v5
/-- the prefix behind k of them -/
def preB (xs : List Int) (k : Nat) : Int := if k = 0 then 0 else gb xs (k - 1)
/-- the loop over the prefixes, at a round's head -/
def AtRef (w : World) (xs : List Int) (ti tp : Value) (wr : World) : Prop :=
  ∃ k : Nat, k ≤ lead xs ∧ ti = .int .i64 (k : Int) ∧ tp = .int .u8 (preB xs k) ∧ Fb w wr ∧
    Row wr (w.heap.size + 1) 24 #[.int .i64 0, .int .u8 0, .int .u8 0, .int .u16 0, .int .i64 0, .int .i64 ((k - 1 : Nat) : Int)]
set_option maxHeartbeats 20000000 in
theorem rnext_any (ad : Option Addr) (cap : Nat) (xs : List Int) (hl : xs.length ≤ 140737488355328) (hx : Bytes8 xs) (w : World) (h : BytesIn w w.heap.size ad xs) :
    Calls Tryd.prog 30 #[.slice ad xs.length cap] w fun e w' => e = .returned (opB (nextO xs) (okM xs)) ∧ Below w.heap.size w w' := by
  have hF := Lib.hid (show Fb w ((w.alloc (.cells zeroC 24)).alloc (.cells zeroC 24)) from ⟨(Row.new w _ _).alloc _, (by repeat (first | exact Below.refl _ _ | assumption | refine bstep ?_ (by assumption) | refine Below.drew ?_ | refine Below.alloc ?_ (by first | (simp; done) | (simp; omega) | omega) _ | refine Below.setCell ?_ (by first | (simp; done) | (simp; omega) | omega) _))⟩)
  have r1 := Lib.hid (Row.new (w.alloc (.cells zeroC 24)) 24 zeroC)
  rw [World.size_alloc] at r1
  have hat := Lib.hid (show ∀ (k : Nat) (i : Int), i = (k : Int) → k ≤ 281474976710656 → ∀ W : World, Below w.heap.size w W → Calls Tryd.prog 36 #[.slice ad xs.length cap, .int .i64 i] W fun e w' => e = .returned (.int .u8 (gb xs k)) ∧ W = w' from fun k i hi hk W hW => hi ▸ rat_any ad cap xs hl w.heap.size k hk W (h.below hW))
  have head := Lib.hid (show AtRef w xs (.int .i64 0) (.int .u8 0) ((w.alloc (.cells zeroC 24)).alloc (.cells zeroC 24)) from ⟨0, Nat.zero_le _, rfl, rfl, hF.out, r1.out⟩)
  have hB := Lib.hid h
  clear h hF r1
  have hll := lead_le xs
  go_enter Tryd.func30, Tryd.ntmps30
  go_wp2
  go_loopw [4, 5] (fun ti tp wr => AtRef w xs ti tp wr) (fun ti _ _ => lead xs + 1 - (intOf ti).toNat)
  case atStart => exact head.out
  case round =>
    obtain ⟨k, hk, rfl, rfl, hF, r1⟩ := hrel
    clear head
    obtain ⟨⟨c0, c1, c2, c3, c4, c5⟩, f⟩ := row6 r1
    by_cases hlt : k < lead xs
    · have hp := lead_pre xs k hlt
      have hq : Hid (preB xs (k + 1) = gb xs k) := by unfold preB; rw [if_neg (by omega)]; exact rfl
      have hx1 : ((gb xs k == 221) = true ∧ (gb xs k == 253) = false) ∨ ((gb xs k == 221) = false ∧ (gb xs k == 253) = true) := by
        unfold isPre at hp
        simp only [Bool.or_eq_true, beq_iff_eq] at hp
        simp only [beq_iff_eq, beq_eq_false_iff_ne]
        omega
      obtain ⟨p, rfl, hpb, hcell0⟩ := hB.out.at_ (k := k) (by omega)
      have hcell : wr.cell? (p.add k) = some (.int .u8 (gb xs k)) := (hF.bel.cell (by rw [add_block]; exact hpb)).trans hcell0
      have hcell0 := Lib.hid hcell0
      clear hp
      cases k with
      | zero =>
        rw [show p.add 0 = p by simp [Addr.add]] at hcell
        have hFn := hF
        have rn := r1
        have hat0 := Lib.hid (hat.out 0 0 rfl (by omega) wr hF.bel)
        clear hF r1
        rcases hx1 with ⟨h1, h2⟩ | ⟨h1, h2⟩
        all_goals
          go_wp2_with (first
            | (go_at_call 36; refine (hat0.out).mono ?_; rintro e w' ⟨rfl, rfl⟩))
          go_roundw
          case rel => exact ⟨0 + 1, by omega, by go_num, by rw [hq.out], hFn, rn⟩
          case measure => simp [intOf]; (try omega)
      | succ j =>
        rw [show ((j + 1 - 1 : Nat) : Int) = (j : Int) from rfl] at c5 r1
        have hq' : Hid (((((j + 1) + 1 - 1 : Nat)) : Int) = (j : Int) + 1) := by show ((j + 1 : Nat) : Int) = _; omega
        have hb2 := (hF.set 5 (.int .i64 ((j : Int) + 1))).bel
        have hcell2 : (wr.setCell ⟨w.heap.size + 1, 5, none⟩ (.int .i64 ((j : Int) + 1))).cell? (p.add (j + 1)) = some (.int .u8 (gb xs (j + 1))) := (hb2.cell (by rw [add_block]; exact hpb)).trans hcell0.out
        rw [show p.add (j + 1) = ⟨p.block, p.off + (j + 1), none⟩ by simp [Addr.add]] at hcell2
        clear hb2 hcell
        have hFn := (hF.set 5 (.int .i64 ((j : Int) + 1)))
        have rn := r1.set 5 (.int .i64 ((j : Int) + 1))
        have hat0 := Lib.hid (hat.out (j + 1) ((j : Int) + 1) (by omega) (by omega) wr hF.bel)
        clear hF r1
        rcases hx1 with ⟨h1, h2⟩ | ⟨h1, h2⟩
        all_goals
          go_wp2_with (first
            | (go_at_call 36; refine (hat0.out).mono ?_; rintro e w' ⟨rfl, rfl⟩))
          go_roundw
          case rel => exact ⟨j + 1 + 1, by omega, by go_num, by rw [hq.out], hFn, rn⟩
          case measure => simp [intOf]; (try omega)
    · obtain rfl : k = lead xs := by omega
      have he := lead_end xs
      have n1 : (gb xs (lead xs) == 221) = false := by unfold isPre at he; simp only [Bool.or_eq_false_iff] at he; exact he.1
      have n2 : (gb xs (lead xs) == 253) = false := by unfold isPre at he; simp only [Bool.or_eq_false_iff] at he; exact he.2
      have hk := Lib.hid (opOf_parts xs (lead xs) rfl)
      have hbig : (((lead xs - 1 : Nat)) : Int) ≤ 140737488355328 := by omega
      have hdone := Lib.hid (show (lenOf xs ≤ xs.length → nextO xs = opOf xs ∧ okM xs = true) ∧ (xs.length < lenOf xs → nextO xs = zeroOp ∧ okM xs = false) from
        ⟨fun h => ⟨(okM_yes (decide_eq_true h)).2, decide_eq_true h⟩, fun h => ⟨(okM_no (decide_eq_false (Nat.not_le.2 h))).2, decide_eq_false (Nat.not_le.2 h)⟩⟩)
      have hbyte := Lib.hid (fun i => gb_byte hx i)
      have h034 : (preP xs (lead xs) = 0 ∧ preB xs (lead xs) = 0 ∧ decide (0 < lead xs) = false) ∨ (preP xs (lead xs) = 3 ∧ preB xs (lead xs) = 221 ∧ 0 < lead xs) ∨ (preP xs (lead xs) = 4 ∧ preB xs (lead xs) = 253 ∧ 0 < lead xs) := by
        rcases Nat.eq_zero_or_pos (lead xs) with h0 | h0
        · left
          unfold preP preB
          rw [if_pos h0, if_pos h0]
          exact ⟨rfl, rfl, decide_eq_false (by omega)⟩
        · right
          have := lead_pre xs (lead xs - 1) (by omega)
          unfold isPre at this
          simp only [Bool.or_eq_true, beq_iff_eq] at this
          have e1 : preP xs (lead xs) = if gb xs (lead xs - 1) = 221 then 3 else 4 := by unfold preP; rw [if_neg (show ¬ lead xs = 0 by omega)]
          have e2 : preB xs (lead xs) = gb xs (lead xs - 1) := by unfold preB; rw [if_neg (show ¬ lead xs = 0 by omega)]
          rw [e1, e2]
          rcases this with h | h
          · left
            rw [if_pos h]
            exact ⟨rfl, h, h0⟩
          · right
            rw [if_neg (show ¬ gb xs (lead xs - 1) = 221 by omega)]
            exact ⟨rfl, h, h0⟩
      clear he
      generalize hss : ((lead xs - 1 : Nat) : Int) = ss at *
      have hss0 : 0 ≤ ss := by omega
      have hss1 := Lib.hid hss
      clear hss hlt
      obtain ⟨⟨d0, d1, d2, d3, d4, d5⟩, g⟩ := row6 hF.row
      have hbel := hF.bel
      have hFh := Lib.hid hF
      have r1h := Lib.hid r1
      clear hF r1
      rcases h034 with ⟨h034, hpb, hi0⟩ | ⟨h034, hpb, hi0⟩ | ⟨h034, hpb, hi0⟩
      · go_wp2_with fail
        refine (hat.out (lead xs) _ (by first | rfl | omega) (by omega) _ hbel).mono ?_
        rintro e w' ⟨rfl, rfl⟩
        go_wp2_with fail
        refine (hat.out (lead xs) _ (by first | rfl | omega) (by omega) _ hbel).mono ?_
        rintro e w' ⟨rfl, rfl⟩
        by_cases e203 : gb xs (lead xs) = 203
        · have fin0 := Lib.hid (hk.out 0 ss (gb xs (lead xs)) 1 (gb xs (lead xs + 1)) (0) (ss) (lead xs + 2) h034 rfl rfl (by rw [e203]; rfl) (by unfold hCode; rw [e203]; rfl) (by unfold hDisp; rw [e203]; rfl) (by rw [e203]; rfl) (by unfold hReads; rw [e203]; rfl))
          have hpl := Lib.hid (show ∀ W, Calls Tryd.prog 37 #[.int .u8 0, .int .u8 (gb xs (lead xs))] W fun e w' => e = .returned (.int .i64 1) ∧ W = w' from fun W => by have hh := rplane_0 (gb xs (lead xs)) W; rw [show hPlane 0 (gb xs (lead xs)) = 1 from (by rw [e203]; rfl)] at hh; exact hh)
          clear e203
          go_wp2_with fail
          refine (hat.out (lead xs) _ (by first | rfl | omega) (by omega) _ (by repeat (first | with_reducible exact hbel | with_reducible refine Below.setCell ?_ (by show w.heap.size ≤ w.heap.size + 1; omega) _))).mono ?_
          rintro e w' ⟨rfl, rfl⟩
          go_wp2_with fail
          refine (hpl.out _).mono ?_
          rintro e w' ⟨rfl, rfl⟩
          go_wp2_with fail
          refine (hat.out (lead xs + 1) _ (by first | rfl | omega) (by omega) _ (by repeat (first | with_reducible exact hbel | with_reducible refine Below.setCell ?_ (by show w.heap.size ≤ w.heap.size + 1; omega) _))).mono ?_
          rintro e w' ⟨rfl, rfl⟩
          have hn : sizeM 1 (gb xs (lead xs + 1)) = 0 := rfl
          have hsz := Lib.hid (show ∀ W, Calls Tryd.prog 38 #[.int .i64 1, .int .u8 (gb xs (lead xs + 1))] W fun e w' => e = .returned (.int .i64 0) ∧ W = w' from fun W => by have hh := rsize_any 1 (gb xs (lead xs + 1)) (hbyte.out (lead xs + 1)) W; rw [hn] at hh; exact hh)
          rw [hn, show immM (gb xs) (lead xs + 2) 0 = 0 from rfl] at fin0
          have hval := Lib.hid (opB_of (opOf xs) (lenOf xs) fin0.out.1 (lenOf_eq xs) ((lead xs + 2 : Nat) + 0) (by rw [fin0.out.2]; first | rfl | omega))
          clear hn
          go_wp2_with fail
          refine (hsz.out _).mono ?_
          rintro e w' ⟨rfl, rfl⟩
          have r9 := Lib.hid (show Row (((((wr).setCell ⟨w.heap.size + 1, 0, none⟩ (.int .i64 1)).setCell ⟨w.heap.size + 1, 1, none⟩ (.int .u8 (gb xs (lead xs + 1)))).setCell ⟨w.heap.size + 1, 4, none⟩ (.int .i64 ((lead xs : Int) + 2)))) (w.heap.size + 1) 24 #[.int .i64 1, .int .u8 (gb xs (lead xs + 1)), .int .u8 0, .int .u16 0, .int .i64 ((lead xs : Int) + 2), .int .i64 ss] from (((r1h.out).set 0 (.int .i64 1)).set 1 (.int .u8 (gb xs (lead xs + 1)))).set 4 (.int .i64 ((lead xs : Int) + 2)))
          have hF9 := Lib.hid (show Fb w (((((wr).setCell ⟨w.heap.size + 1, 0, none⟩ (.int .i64 1)).setCell ⟨w.heap.size + 1, 1, none⟩ (.int .u8 (gb xs (lead xs + 1)))).setCell ⟨w.heap.size + 1, 4, none⟩ (.int .i64 ((lead xs : Int) + 2)))) from ⟨((((hFh.out).set 0 (.int .i64 1)).set 1 (.int .u8 (gb xs (lead xs + 1)))).set 4 (.int .i64 ((lead xs : Int) + 2))).row, ((((hFh.out).set 0 (.int .i64 1)).set 1 (.int .u8 (gb xs (lead xs + 1)))).set 4 (.int .i64 ((lead xs : Int) + 2))).bel⟩)
          go_upto_region 34 with (fail)
          generalize hWX : ((((wr).setCell ⟨w.heap.size + 1, 0, none⟩ (.int .i64 1)).setCell ⟨w.heap.size + 1, 1, none⟩ (.int .u8 (gb xs (lead xs + 1)))).setCell ⟨w.heap.size + 1, 4, none⟩ (.int .i64 ((lead xs : Int) + 2))) = W9 at *
          clear hWX c0 c1 c2 c3 c4 c5 f d0 d1 d2 d3 d4 d5 g hbel
          obtain ⟨⟨c0, c1, c2, c3, c4, c5⟩, f⟩ := row6 r9.out
          obtain ⟨⟨d0, d1, d2, d3, d4, d5⟩, g⟩ := row6 hF9.out.row
          have hbel := hF9.out.bel
          clear r9 hF9
          go_wp2
          all_goals
            rename_i hgt
            first
            | (have hno := hdone.out.2 (by rw [fin0.out.2]; omega)
               refine bodyPost_ret (v := .tuple #[opV 0 0 0 0 0 0, .bool false]) (by simp [results, Tryd.f30, go_sem, c0, c1, c2, c3, c4, c5, d0, d1, d2, d3, d4, d5]) rfl ?_
               rw [hno.1, hno.2]
               exact ⟨rfl, (by repeat (first | with_reducible exact hbel | with_reducible refine Below.drew ?_ | with_reducible refine Below.setCell ?_ (by first | exact Nat.le_refl _ | (show w.heap.size ≤ w.heap.size + 1; omega)) _))⟩)
            | (have hyes := hdone.out.1 (by rw [fin0.out.2]; omega)
               refine bodyPost_ret (v := .tuple #[opV 1 (gb xs (lead xs + 1)) (0) (0) ((lead xs + 2 : Nat) + 0) (ss), .bool true]) (by simp [results, Tryd.f30, go_sem, c0, c1, c2, c3, c4, c5, d0, d1, d2, d3, d4, d5]; (try omega)) rfl ?_
               rw [hyes.1, hyes.2]
               rw [hval.out]
               exact ⟨rfl, (by repeat (first | with_reducible exact hbel | with_reducible refine Below.drew ?_ | with_reducible refine Below.setCell ?_ (by first | exact Nat.le_refl _ | (show w.heap.size ≤ w.heap.size + 1; omega)) _))⟩)
        · by_cases e237 : gb xs (lead xs) = 237
          · have fin0 := Lib.hid (hk.out 0 ss (gb xs (lead xs)) 2 (gb xs (lead xs + 1)) (0) (ss) (lead xs + 2) h034 rfl rfl (by rw [e237]; rfl) (by unfold hCode; rw [e237]; rfl) (by unfold hDisp; rw [e237]; rfl) (by rw [e237]; rfl) (by unfold hReads; rw [e237]; rfl))
            have hpl := Lib.hid (show ∀ W, Calls Tryd.prog 37 #[.int .u8 0, .int .u8 (gb xs (lead xs))] W fun e w' => e = .returned (.int .i64 2) ∧ W = w' from fun W => by have hh := rplane_0 (gb xs (lead xs)) W; rw [show hPlane 0 (gb xs (lead xs)) = 2 from (by rw [e237]; rfl)] at hh; exact hh)
            clear e203 e237
            go_wp2_with fail
            refine (hat.out (lead xs) _ (by first | rfl | omega) (by omega) _ (by repeat (first | with_reducible exact hbel | with_reducible refine Below.setCell ?_ (by show w.heap.size ≤ w.heap.size + 1; omega) _))).mono ?_
            rintro e w' ⟨rfl, rfl⟩
            go_wp2_with fail
            refine (hpl.out _).mono ?_
            rintro e w' ⟨rfl, rfl⟩
            go_wp2_with fail
            refine (hat.out (lead xs + 1) _ (by first | rfl | omega) (by omega) _ (by repeat (first | with_reducible exact hbel | with_reducible refine Below.setCell ?_ (by show w.heap.size ≤ w.heap.size + 1; omega) _))).mono ?_
            rintro e w' ⟨rfl, rfl⟩
            rcases sizeM_two (gb xs (lead xs + 1)) with hn | hn
            · have hsz := Lib.hid (show ∀ W, Calls Tryd.prog 38 #[.int .i64 2, .int .u8 (gb xs (lead xs + 1))] W fun e w' => e = .returned (.int .i64 0) ∧ W = w' from fun W => by have hh := rsize_any 2 (gb xs (lead xs + 1)) (hbyte.out (lead xs + 1)) W; rw [hn] at hh; exact hh)
              rw [hn, show immM (gb xs) (lead xs + 2) 0 = 0 from rfl] at fin0
              have hval := Lib.hid (opB_of (opOf xs) (lenOf xs) fin0.out.1 (lenOf_eq xs) ((lead xs + 2 : Nat) + 0) (by rw [fin0.out.2]; first | rfl | omega))
              clear hn
              go_wp2_with fail
              refine (hsz.out _).mono ?_
              rintro e w' ⟨rfl, rfl⟩
              have r9 := Lib.hid (show Row (((((wr).setCell ⟨w.heap.size + 1, 0, none⟩ (.int .i64 2)).setCell ⟨w.heap.size + 1, 1, none⟩ (.int .u8 (gb xs (lead xs + 1)))).setCell ⟨w.heap.size + 1, 4, none⟩ (.int .i64 ((lead xs : Int) + 2)))) (w.heap.size + 1) 24 #[.int .i64 2, .int .u8 (gb xs (lead xs + 1)), .int .u8 0, .int .u16 0, .int .i64 ((lead xs : Int) + 2), .int .i64 ss] from (((r1h.out).set 0 (.int .i64 2)).set 1 (.int .u8 (gb xs (lead xs + 1)))).set 4 (.int .i64 ((lead xs : Int) + 2)))
              have hF9 := Lib.hid (show Fb w (((((wr).setCell ⟨w.heap.size + 1, 0, none⟩ (.int .i64 2)).setCell ⟨w.heap.size + 1, 1, none⟩ (.int .u8 (gb xs (lead xs + 1)))).setCell ⟨w.heap.size + 1, 4, none⟩ (.int .i64 ((lead xs : Int) + 2)))) from ⟨((((hFh.out).set 0 (.int .i64 2)).set 1 (.int .u8 (gb xs (lead xs + 1)))).set 4 (.int .i64 ((lead xs : Int) + 2))).row, ((((hFh.out).set 0 (.int .i64 2)).set 1 (.int .u8 (gb xs (lead xs + 1)))).set 4 (.int .i64 ((lead xs : Int) + 2))).bel⟩)
              go_upto_region 34 with (fail)
              generalize hWX : ((((wr).setCell ⟨w.heap.size + 1, 0, none⟩ (.int .i64 2)).setCell ⟨w.heap.size + 1, 1, none⟩ (.int .u8 (gb xs (lead xs + 1)))).setCell ⟨w.heap.size + 1, 4, none⟩ (.int .i64 ((lead xs : Int) + 2))) = W9 at *
              clear hWX c0 c1 c2 c3 c4 c5 f d0 d1 d2 d3 d4 d5 g hbel
              obtain ⟨⟨c0, c1, c2, c3, c4, c5⟩, f⟩ := row6 r9.out
              obtain ⟨⟨d0, d1, d2, d3, d4, d5⟩, g⟩ := row6 hF9.out.row
              have hbel := hF9.out.bel
              clear r9 hF9
              go_wp2
              all_goals
                rename_i hgt
                first
                | (have hno := hdone.out.2 (by rw [fin0.out.2]; omega)
                   refine bodyPost_ret (v := .tuple #[opV 0 0 0 0 0 0, .bool false]) (by simp [results, Tryd.f30, go_sem, c0, c1, c2, c3, c4, c5, d0, d1, d2, d3, d4, d5]) rfl ?_
                   rw [hno.1, hno.2]
                   exact ⟨rfl, (by repeat (first | with_reducible exact hbel | with_reducible refine Below.drew ?_ | with_reducible refine Below.setCell ?_ (by first | exact Nat.le_refl _ | (show w.heap.size ≤ w.heap.size + 1; omega)) _))⟩)
                | (have hyes := hdone.out.1 (by rw [fin0.out.2]; omega)
                   refine bodyPost_ret (v := .tuple #[opV 2 (gb xs (lead xs + 1)) (0) (0) ((lead xs + 2 : Nat) + 0) (ss), .bool true]) (by simp [results, Tryd.f30, go_sem, c0, c1, c2, c3, c4, c5, d0, d1, d2, d3, d4, d5]; (try omega)) rfl ?_
                   rw [hyes.1, hyes.2]
                   rw [hval.out]
                   exact ⟨rfl, (by repeat (first | with_reducible exact hbel | with_reducible refine Below.drew ?_ | with_reducible refine Below.setCell ?_ (by first | exact Nat.le_refl _ | (show w.heap.size ≤ w.heap.size + 1; omega)) _))⟩)
            · have hsz := Lib.hid (show ∀ W, Calls Tryd.prog 38 #[.int .i64 2, .int .u8 (gb xs (lead xs + 1))] W fun e w' => e = .returned (.int .i64 2) ∧ W = w' from fun W => by have hh := rsize_any 2 (gb xs (lead xs + 1)) (hbyte.out (lead xs + 1)) W; rw [hn] at hh; exact hh)
              rw [hn, show immM (gb xs) (lead xs + 2) 2 = gb xs (lead xs + 2) + 256 * gb xs (lead xs + 2 + 1) from by unfold immM; rw [if_neg (by decide), if_neg (by decide)]; omega] at fin0
              have hval := Lib.hid (opB_of (opOf xs) (lenOf xs) fin0.out.1 (lenOf_eq xs) ((lead xs + 2 : Nat) + 2) (by rw [fin0.out.2]; first | rfl | omega))
              clear hn
              go_wp2_with fail
              refine (hsz.out _).mono ?_
              rintro e w' ⟨rfl, rfl⟩
              have bR := hbyte.out (lead xs + 2)
              have bR0 := bR.1
              have bR1 := bR.2
              have bS := hbyte.out (lead xs + 2 + 1)
              have bS0 := bS.1
              have bS1 := bS.2
              go_wp2_with fail
              refine (hat.out (lead xs + 2) _ (by first | rfl | omega) (by omega) _ (by repeat (first | with_reducible exact hbel | with_reducible refine Below.setCell ?_ (by show w.heap.size ≤ w.heap.size + 1; omega) _))).mono ?_
              rintro e w' ⟨rfl, rfl⟩
              have r4 := Lib.hid (show Row ((((wr).setCell ⟨w.heap.size + 1, 0, none⟩ (.int .i64 2)).setCell ⟨w.heap.size + 1, 1, none⟩ (.int .u8 (gb xs (lead xs + 1)))).setCell ⟨w.heap.size + 1, 3, none⟩ (.int .u16 (gb xs (lead xs + 2)))) (w.heap.size + 1) 24 #[.int .i64 2, .int .u8 (gb xs (lead xs + 1)), .int .u8 0, .int .u16 (gb xs (lead xs + 2)), .int .i64 0, .int .i64 ss] from (((r1h.out).set 0 (.int .i64 2)).set 1 (.int .u8 (gb xs (lead xs + 1)))).set 3 (.int .u16 (gb xs (lead xs + 2))))
              have hF4 := Lib.hid ((((hFh.out).set 0 (.int .i64 2)).set 1 (.int .u8 (gb xs (lead xs + 1)))).set 3 (.int .u16 (gb xs (lead xs + 2))))
              go_upto_region 32 with (fail)
              generalize hWX : ((((wr).setCell ⟨w.heap.size + 1, 0, none⟩ (.int .i64 2)).setCell ⟨w.heap.size + 1, 1, none⟩ (.int .u8 (gb xs (lead xs + 1)))).setCell ⟨w.heap.size + 1, 3, none⟩ (.int .u16 (gb xs (lead xs + 2)))) = W4 at *
              clear hWX c0 c1 c2 c3 c4 c5 f d0 d1 d2 d3 d4 d5 g hbel hFh r1h
              obtain ⟨⟨c0, c1, c2, c3, c4, c5⟩, f⟩ := row6 r4.out
              obtain ⟨⟨d0, d1, d2, d3, d4, d5⟩, g⟩ := row6 hF4.out.row
              have hbel := hF4.out.bel
              have bdr := hbel.drew
              go_still_tail 10, (by kernel_rfl)
              still_call ((hat.out ((lead xs + 2) + 1) _ (by first | rfl | omega | (rw [IntKind.wrap_i64]; omega)) (by omega) W4.drew bdr).mono fun e w' h => ⟨h.1, h.2.symm⟩)
              repeat still_step
              refine wpStill_nil ?_
              change wpList _ _ _ _ _ W4.drew
              have r9 := Lib.hid (show Row ((((W4).setCell ⟨w.heap.size + 1, 3, none⟩ (.int .u16 (gb xs (lead xs + 2) + 256 * gb xs (lead xs + 2 + 1)))).setCell ⟨w.heap.size + 1, 4, none⟩ (.int .i64 ((lead xs : Int) + 2 + 2))).drew) (w.heap.size + 1) 24 #[.int .i64 2, .int .u8 (gb xs (lead xs + 1)), .int .u8 0, .int .u16 (gb xs (lead xs + 2) + 256 * gb xs (lead xs + 2 + 1)), .int .i64 ((lead xs : Int) + 2 + 2), .int .i64 ss] from ((r4.out).set 3 (.int .u16 (gb xs (lead xs + 2) + 256 * gb xs (lead xs + 2 + 1)))).set 4 (.int .i64 ((lead xs : Int) + 2 + 2)))
              have hF9 := Lib.hid (show Fb w ((((W4).setCell ⟨w.heap.size + 1, 3, none⟩ (.int .u16 (gb xs (lead xs + 2) + 256 * gb xs (lead xs + 2 + 1)))).setCell ⟨w.heap.size + 1, 4, none⟩ (.int .i64 ((lead xs : Int) + 2 + 2))).drew) from ⟨(((hF4.out).set 3 (.int .u16 (gb xs (lead xs + 2) + 256 * gb xs (lead xs + 2 + 1)))).set 4 (.int .i64 ((lead xs : Int) + 2 + 2))).row, (((hF4.out).set 3 (.int .u16 (gb xs (lead xs + 2) + 256 * gb xs (lead xs + 2 + 1)))).set 4 (.int .i64 ((lead xs : Int) + 2 + 2))).bel.drew⟩)
              go_upto_region 34 with (fail)
              generalize hWX : (((W4).setCell ⟨w.heap.size + 1, 3, none⟩ (.int .u16 (gb xs (lead xs + 2) + 256 * gb xs (lead xs + 2 + 1)))).setCell ⟨w.heap.size + 1, 4, none⟩ (.int .i64 ((lead xs : Int) + 2 + 2))).drew = W9 at *
              clear hWX c0 c1 c2 c3 c4 c5 f d0 d1 d2 d3 d4 d5 g hbel
              obtain ⟨⟨c0, c1, c2, c3, c4, c5⟩, f⟩ := row6 r9.out
              obtain ⟨⟨d0, d1, d2, d3, d4, d5⟩, g⟩ := row6 hF9.out.row
              have hbel := hF9.out.bel
              clear r9 hF9
              go_wp2
              all_goals
                rename_i hgt
                first
                | (have hno := hdone.out.2 (by rw [fin0.out.2]; omega)
                   refine bodyPost_ret (v := .tuple #[opV 0 0 0 0 0 0, .bool false]) (by simp [results, Tryd.f30, go_sem, c0, c1, c2, c3, c4, c5, d0, d1, d2, d3, d4, d5]) rfl ?_
                   rw [hno.1, hno.2]
                   exact ⟨rfl, (by repeat (first | with_reducible exact hbel | with_reducible refine Below.drew ?_ | with_reducible refine Below.setCell ?_ (by first | exact Nat.le_refl _ | (show w.heap.size ≤ w.heap.size + 1; omega)) _))⟩)
                | (have hyes := hdone.out.1 (by rw [fin0.out.2]; omega)
                   refine bodyPost_ret (v := .tuple #[opV 2 (gb xs (lead xs + 1)) (0) (gb xs (lead xs + 2) + 256 * gb xs (lead xs + 2 + 1)) ((lead xs + 2 : Nat) + 2) (ss), .bool true]) (by simp [results, Tryd.f30, go_sem, c0, c1, c2, c3, c4, c5, d0, d1, d2, d3, d4, d5]; (try omega)) rfl ?_
                   rw [hyes.1, hyes.2]
                   rw [hval.out]
                   exact ⟨rfl, (by repeat (first | with_reducible exact hbel | with_reducible refine Below.drew ?_ | with_reducible refine Below.setCell ?_ (by first | exact Nat.le_refl _ | (show w.heap.size ≤ w.heap.size + 1; omega)) _))⟩)
          · have hPl : hPlane 0 (gb xs (lead xs)) = 0 := by unfold hPlane; rw [if_neg e203, if_neg e237]
            have hN : nearM 0 (gb xs (lead xs)) = false := rfl
            have fin0 := Lib.hid (hk.out 0 ss (gb xs (lead xs)) 0 (gb xs (lead xs)) (0) (ss) (lead xs + 1) h034 rfl rfl hPl (by unfold hCode; rw [hPl, if_neg (by decide), if_neg (by omega)]) (by unfold hDisp; rw [hPl, if_neg (by decide), if_neg (by omega), hN]; rfl) (by unfold hSkip; rw [if_neg (by omega)]) (by unfold hReads; rw [hPl, if_neg (by decide), if_neg (by omega), hN]; rfl))
            have hpl := Lib.hid (show ∀ W, Calls Tryd.prog 37 #[.int .u8 0, .int .u8 (gb xs (lead xs))] W fun e w' => e = .returned (.int .i64 0) ∧ W = w' from fun W => by have hh := rplane_0 (gb xs (lead xs)) W; rw [show hPlane 0 (gb xs (lead xs)) = 0 from hPl] at hh; exact hh)
            have hne := Lib.hid (show ∀ W, Calls Tryd.prog 26 #[.int .i64 0, .int .u8 (gb xs (lead xs))] W fun e w' => e = .returned (.bool false) ∧ W = w' from fun W => by have hh := drnear_any 0 (gb xs (lead xs)) (hbyte.out (lead xs)) W; rw [hN] at hh; exact hh)
            clear hN e203 e237 hPl
            go_wp2_with fail
            refine (hat.out (lead xs) _ (by first | rfl | omega) (by omega) _ (by repeat (first | with_reducible exact hbel | with_reducible refine Below.setCell ?_ (by show w.heap.size ≤ w.heap.size + 1; omega) _))).mono ?_
            rintro e w' ⟨rfl, rfl⟩
            go_wp2_with fail
            refine (hpl.out _).mono ?_
            rintro e w' ⟨rfl, rfl⟩
            go_wp2_with fail
            refine (hat.out (lead xs) _ (by first | rfl | omega) (by omega) _ (by repeat (first | with_reducible exact hbel | with_reducible refine Below.setCell ?_ (by show w.heap.size ≤ w.heap.size + 1; omega) _))).mono ?_
            rintro e w' ⟨rfl, rfl⟩
            go_wp2_with fail
            refine (hne.out _).mono ?_
            rintro e w' ⟨rfl, rfl⟩
            rcases sizeM_cases 0 (gb xs (lead xs)) with hn | hn | hn
            · have hsz := Lib.hid (show ∀ W, Calls Tryd.prog 38 #[.int .i64 0, .int .u8 (gb xs (lead xs))] W fun e w' => e = .returned (.int .i64 0) ∧ W = w' from fun W => by have hh := rsize_any 0 (gb xs (lead xs)) (hbyte.out (lead xs)) W; rw [hn] at hh; exact hh)
              rw [hn, show immM (gb xs) (lead xs + 1) 0 = 0 from rfl] at fin0
              have hval := Lib.hid (opB_of (opOf xs) (lenOf xs) fin0.out.1 (lenOf_eq xs) ((lead xs + 1 : Nat) + 0) (by rw [fin0.out.2]; first | rfl | omega))
              clear hn
              go_wp2_with fail
              refine (hsz.out _).mono ?_
              rintro e w' ⟨rfl, rfl⟩
              have r9 := Lib.hid (show Row (((((wr).setCell ⟨w.heap.size + 1, 0, none⟩ (.int .i64 0)).setCell ⟨w.heap.size + 1, 1, none⟩ (.int .u8 (gb xs (lead xs)))).setCell ⟨w.heap.size + 1, 4, none⟩ (.int .i64 ((lead xs : Int) + 1)))) (w.heap.size + 1) 24 #[.int .i64 0, .int .u8 (gb xs (lead xs)), .int .u8 0, .int .u16 0, .int .i64 ((lead xs : Int) + 1), .int .i64 ss] from (((r1h.out).set 0 (.int .i64 0)).set 1 (.int .u8 (gb xs (lead xs)))).set 4 (.int .i64 ((lead xs : Int) + 1)))
              have hF9 := Lib.hid (show Fb w (((((wr).setCell ⟨w.heap.size + 1, 0, none⟩ (.int .i64 0)).setCell ⟨w.heap.size + 1, 1, none⟩ (.int .u8 (gb xs (lead xs)))).setCell ⟨w.heap.size + 1, 4, none⟩ (.int .i64 ((lead xs : Int) + 1)))) from ⟨((((hFh.out).set 0 (.int .i64 0)).set 1 (.int .u8 (gb xs (lead xs)))).set 4 (.int .i64 ((lead xs : Int) + 1))).row, ((((hFh.out).set 0 (.int .i64 0)).set 1 (.int .u8 (gb xs (lead xs)))).set 4 (.int .i64 ((lead xs : Int) + 1))).bel⟩)
              go_upto_region 34 with (fail)
              generalize hWX : ((((wr).setCell ⟨w.heap.size + 1, 0, none⟩ (.int .i64 0)).setCell ⟨w.heap.size + 1, 1, none⟩ (.int .u8 (gb xs (lead xs)))).setCell ⟨w.heap.size + 1, 4, none⟩ (.int .i64 ((lead xs : Int) + 1))) = W9 at *
              clear hWX c0 c1 c2 c3 c4 c5 f d0 d1 d2 d3 d4 d5 g hbel
              obtain ⟨⟨c0, c1, c2, c3, c4, c5⟩, f⟩ := row6 r9.out
              obtain ⟨⟨d0, d1, d2, d3, d4, d5⟩, g⟩ := row6 hF9.out.row
              have hbel := hF9.out.bel
              clear r9 hF9
              go_wp2
              all_goals
                rename_i hgt
                first
                | (have hno := hdone.out.2 (by rw [fin0.out.2]; omega)
                   refine bodyPost_ret (v := .tuple #[opV 0 0 0 0 0 0, .bool false]) (by simp [results, Tryd.f30, go_sem, c0, c1, c2, c3, c4, c5, d0, d1, d2, d3, d4, d5]) rfl ?_
                   rw [hno.1, hno.2]
                   exact ⟨rfl, (by repeat (first | with_reducible exact hbel | with_reducible refine Below.drew ?_ | with_reducible refine Below.setCell ?_ (by first | exact Nat.le_refl _ | (show w.heap.size ≤ w.heap.size + 1; omega)) _))⟩)
                | (have hyes := hdone.out.1 (by rw [fin0.out.2]; omega)
                   refine bodyPost_ret (v := .tuple #[opV 0 (gb xs (lead xs)) (0) (0) ((lead xs + 1 : Nat) + 0) (ss), .bool true]) (by simp [results, Tryd.f30, go_sem, c0, c1, c2, c3, c4, c5, d0, d1, d2, d3, d4, d5]; (try omega)) rfl ?_
                   rw [hyes.1, hyes.2]
                   rw [hval.out]
                   exact ⟨rfl, (by repeat (first | with_reducible exact hbel | with_reducible refine Below.drew ?_ | with_reducible refine Below.setCell ?_ (by first | exact Nat.le_refl _ | (show w.heap.size ≤ w.heap.size + 1; omega)) _))⟩)
            · have hsz := Lib.hid (show ∀ W, Calls Tryd.prog 38 #[.int .i64 0, .int .u8 (gb xs (lead xs))] W fun e w' => e = .returned (.int .i64 1) ∧ W = w' from fun W => by have hh := rsize_any 0 (gb xs (lead xs)) (hbyte.out (lead xs)) W; rw [hn] at hh; exact hh)
              rw [hn, show immM (gb xs) (lead xs + 1) 1 = gb xs (lead xs + 1) from rfl] at fin0
              have hval := Lib.hid (opB_of (opOf xs) (lenOf xs) fin0.out.1 (lenOf_eq xs) ((lead xs + 1 : Nat) + 1) (by rw [fin0.out.2]; first | rfl | omega))
              clear hn
              go_wp2_with fail
              refine (hsz.out _).mono ?_
              rintro e w' ⟨rfl, rfl⟩
              have bR := hbyte.out (lead xs + 1)
              have bR0 := bR.1
              have bR1 := bR.2
              go_wp2_with fail
              refine (hat.out (lead xs + 1) _ (by first | rfl | omega) (by omega) _ (by repeat (first | with_reducible exact hbel | with_reducible refine Below.setCell ?_ (by show w.heap.size ≤ w.heap.size + 1; omega) _))).mono ?_
              rintro e w' ⟨rfl, rfl⟩
              have r9 := Lib.hid (show Row ((((((wr).setCell ⟨w.heap.size + 1, 0, none⟩ (.int .i64 0)).setCell ⟨w.heap.size + 1, 1, none⟩ (.int .u8 (gb xs (lead xs)))).setCell ⟨w.heap.size + 1, 3, none⟩ (.int .u16 (gb xs (lead xs + 1)))).setCell ⟨w.heap.size + 1, 4, none⟩ (.int .i64 ((lead xs : Int) + 1 + 1)))) (w.heap.size + 1) 24 #[.int .i64 0, .int .u8 (gb xs (lead xs)), .int .u8 0, .int .u16 (gb xs (lead xs + 1)), .int .i64 ((lead xs : Int) + 1 + 1), .int .i64 ss] from ((((r1h.out).set 0 (.int .i64 0)).set 1 (.int .u8 (gb xs (lead xs)))).set 3 (.int .u16 (gb xs (lead xs + 1)))).set 4 (.int .i64 ((lead xs : Int) + 1 + 1)))
              have hF9 := Lib.hid (show Fb w ((((((wr).setCell ⟨w.heap.size + 1, 0, none⟩ (.int .i64 0)).setCell ⟨w.heap.size + 1, 1, none⟩ (.int .u8 (gb xs (lead xs)))).setCell ⟨w.heap.size + 1, 3, none⟩ (.int .u16 (gb xs (lead xs + 1)))).setCell ⟨w.heap.size + 1, 4, none⟩ (.int .i64 ((lead xs : Int) + 1 + 1)))) from ⟨(((((hFh.out).set 0 (.int .i64 0)).set 1 (.int .u8 (gb xs (lead xs)))).set 3 (.int .u16 (gb xs (lead xs + 1)))).set 4 (.int .i64 ((lead xs : Int) + 1 + 1))).row, (((((hFh.out).set 0 (.int .i64 0)).set 1 (.int .u8 (gb xs (lead xs)))).set 3 (.int .u16 (gb xs (lead xs + 1)))).set 4 (.int .i64 ((lead xs : Int) + 1 + 1))).bel⟩)
              go_upto_region 34 with (fail)
              generalize hWX : (((((wr).setCell ⟨w.heap.size + 1, 0, none⟩ (.int .i64 0)).setCell ⟨w.heap.size + 1, 1, none⟩ (.int .u8 (gb xs (lead xs)))).setCell ⟨w.heap.size + 1, 3, none⟩ (.int .u16 (gb xs (lead xs + 1)))).setCell ⟨w.heap.size + 1, 4, none⟩ (.int .i64 ((lead xs : Int) + 1 + 1))) = W9 at *
              clear hWX c0 c1 c2 c3 c4 c5 f d0 d1 d2 d3 d4 d5 g hbel
              obtain ⟨⟨c0, c1, c2, c3, c4, c5⟩, f⟩ := row6 r9.out
              obtain ⟨⟨d0, d1, d2, d3, d4, d5⟩, g⟩ := row6 hF9.out.row
              have hbel := hF9.out.bel
              clear r9 hF9
              go_wp2
              all_goals
                rename_i hgt
                first
                | (have hno := hdone.out.2 (by rw [fin0.out.2]; omega)
                   refine bodyPost_ret (v := .tuple #[opV 0 0 0 0 0 0, .bool false]) (by simp [results, Tryd.f30, go_sem, c0, c1, c2, c3, c4, c5, d0, d1, d2, d3, d4, d5]) rfl ?_
                   rw [hno.1, hno.2]
                   exact ⟨rfl, (by repeat (first | with_reducible exact hbel | with_reducible refine Below.drew ?_ | with_reducible refine Below.setCell ?_ (by first | exact Nat.le_refl _ | (show w.heap.size ≤ w.heap.size + 1; omega)) _))⟩)
                | (have hyes := hdone.out.1 (by rw [fin0.out.2]; omega)
                   refine bodyPost_ret (v := .tuple #[opV 0 (gb xs (lead xs)) (0) (gb xs (lead xs + 1)) ((lead xs + 1 : Nat) + 1) (ss), .bool true]) (by simp [results, Tryd.f30, go_sem, c0, c1, c2, c3, c4, c5, d0, d1, d2, d3, d4, d5]; (try omega)) rfl ?_
                   rw [hyes.1, hyes.2]
                   rw [hval.out]
                   exact ⟨rfl, (by repeat (first | with_reducible exact hbel | with_reducible refine Below.drew ?_ | with_reducible refine Below.setCell ?_ (by first | exact Nat.le_refl _ | (show w.heap.size ≤ w.heap.size + 1; omega)) _))⟩)
            · have hsz := Lib.hid (show ∀ W, Calls Tryd.prog 38 #[.int .i64 0, .int .u8 (gb xs (lead xs))] W fun e w' => e = .returned (.int .i64 2) ∧ W = w' from fun W => by have hh := rsize_any 0 (gb xs (lead xs)) (hbyte.out (lead xs)) W; rw [hn] at hh; exact hh)
              rw [hn, show immM (gb xs) (lead xs + 1) 2 = gb xs (lead xs + 1) + 256 * gb xs (lead xs + 1 + 1) from by unfold immM; rw [if_neg (by decide), if_neg (by decide)]; omega] at fin0
              have hval := Lib.hid (opB_of (opOf xs) (lenOf xs) fin0.out.1 (lenOf_eq xs) ((lead xs + 1 : Nat) + 2) (by rw [fin0.out.2]; first | rfl | omega))
              clear hn
              go_wp2_with fail
              refine (hsz.out _).mono ?_
              rintro e w' ⟨rfl, rfl⟩
              have bR := hbyte.out (lead xs + 1)
              have bR0 := bR.1
              have bR1 := bR.2
              have bS := hbyte.out (lead xs + 1 + 1)
              have bS0 := bS.1
              have bS1 := bS.2
              go_wp2_with fail
              refine (hat.out (lead xs + 1) _ (by first | rfl | omega) (by omega) _ (by repeat (first | with_reducible exact hbel | with_reducible refine Below.setCell ?_ (by show w.heap.size ≤ w.heap.size + 1; omega) _))).mono ?_
              rintro e w' ⟨rfl, rfl⟩
              have r4 := Lib.hid (show Row ((((wr).setCell ⟨w.heap.size + 1, 0, none⟩ (.int .i64 0)).setCell ⟨w.heap.size + 1, 1, none⟩ (.int .u8 (gb xs (lead xs)))).setCell ⟨w.heap.size + 1, 3, none⟩ (.int .u16 (gb xs (lead xs + 1)))) (w.heap.size + 1) 24 #[.int .i64 0, .int .u8 (gb xs (lead xs)), .int .u8 0, .int .u16 (gb xs (lead xs + 1)), .int .i64 0, .int .i64 ss] from (((r1h.out).set 0 (.int .i64 0)).set 1 (.int .u8 (gb xs (lead xs)))).set 3 (.int .u16 (gb xs (lead xs + 1))))
              have hF4 := Lib.hid ((((hFh.out).set 0 (.int .i64 0)).set 1 (.int .u8 (gb xs (lead xs)))).set 3 (.int .u16 (gb xs (lead xs + 1))))
              go_upto_region 32 with (fail)
              generalize hWX : ((((wr).setCell ⟨w.heap.size + 1, 0, none⟩ (.int .i64 0)).setCell ⟨w.heap.size + 1, 1, none⟩ (.int .u8 (gb xs (lead xs)))).setCell ⟨w.heap.size + 1, 3, none⟩ (.int .u16 (gb xs (lead xs + 1)))) = W4 at *
              clear hWX c0 c1 c2 c3 c4 c5 f d0 d1 d2 d3 d4 d5 g hbel hFh r1h
              obtain ⟨⟨c0, c1, c2, c3, c4, c5⟩, f⟩ := row6 r4.out
              obtain ⟨⟨d0, d1, d2, d3, d4, d5⟩, g⟩ := row6 hF4.out.row
              have hbel := hF4.out.bel
              have bdr := hbel.drew
              go_still_tail 10, (by kernel_rfl)
              still_call ((hat.out ((lead xs + 1) + 1) _ (by first | rfl | omega | (rw [IntKind.wrap_i64]; omega)) (by omega) W4.drew bdr).mono fun e w' h => ⟨h.1, h.2.symm⟩)
              repeat still_step
              refine wpStill_nil ?_
              change wpList _ _ _ _ _ W4.drew
              have r9 := Lib.hid (show Row ((((W4).setCell ⟨w.heap.size + 1, 3, none⟩ (.int .u16 (gb xs (lead xs + 1) + 256 * gb xs (lead xs + 1 + 1)))).setCell ⟨w.heap.size + 1, 4, none⟩ (.int .i64 ((lead xs : Int) + 1 + 2))).drew) (w.heap.size + 1) 24 #[.int .i64 0, .int .u8 (gb xs (lead xs)), .int .u8 0, .int .u16 (gb xs (lead xs + 1) + 256 * gb xs (lead xs + 1 + 1)), .int .i64 ((lead xs : Int) + 1 + 2), .int .i64 ss] from ((r4.out).set 3 (.int .u16 (gb xs (lead xs + 1) + 256 * gb xs (lead xs + 1 + 1)))).set 4 (.int .i64 ((lead xs : Int) + 1 + 2)))
              have hF9 := Lib.hid (show Fb w ((((W4).setCell ⟨w.heap.size + 1, 3, none⟩ (.int .u16 (gb xs (lead xs + 1) + 256 * gb xs (lead xs + 1 + 1)))).setCell ⟨w.heap.size + 1, 4, none⟩ (.int .i64 ((lead xs : Int) + 1 + 2))).drew) from ⟨(((hF4.out).set 3 (.int .u16 (gb xs (lead xs + 1) + 256 * gb xs (lead xs + 1 + 1)))).set 4 (.int .i64 ((lead xs : Int) + 1 + 2))).row, (((hF4.out).set 3 (.int .u16 (gb xs (lead xs + 1) + 256 * gb xs (lead xs + 1 + 1)))).set 4 (.int .i64 ((lead xs : Int) + 1 + 2))).bel.drew⟩)
              go_upto_region 34 with (fail)
              generalize hWX : (((W4).setCell ⟨w.heap.size + 1, 3, none⟩ (.int .u16 (gb xs (lead xs + 1) + 256 * gb xs (lead xs + 1 + 1)))).setCell ⟨w.heap.size + 1, 4, none⟩ (.int .i64 ((lead xs : Int) + 1 + 2))).drew = W9 at *
              clear hWX c0 c1 c2 c3 c4 c5 f d0 d1 d2 d3 d4 d5 g hbel
              obtain ⟨⟨c0, c1, c2, c3, c4, c5⟩, f⟩ := row6 r9.out
              obtain ⟨⟨d0, d1, d2, d3, d4, d5⟩, g⟩ := row6 hF9.out.row
              have hbel := hF9.out.bel
              clear r9 hF9
              go_wp2
              all_goals
                rename_i hgt
                first
                | (have hno := hdone.out.2 (by rw [fin0.out.2]; omega)
                   refine bodyPost_ret (v := .tuple #[opV 0 0 0 0 0 0, .bool false]) (by simp [results, Tryd.f30, go_sem, c0, c1, c2, c3, c4, c5, d0, d1, d2, d3, d4, d5]) rfl ?_
                   rw [hno.1, hno.2]
                   exact ⟨rfl, (by repeat (first | with_reducible exact hbel | with_reducible refine Below.drew ?_ | with_reducible refine Below.setCell ?_ (by first | exact Nat.le_refl _ | (show w.heap.size ≤ w.heap.size + 1; omega)) _))⟩)
                | (have hyes := hdone.out.1 (by rw [fin0.out.2]; omega)
                   refine bodyPost_ret (v := .tuple #[opV 0 (gb xs (lead xs)) (0) (gb xs (lead xs + 1) + 256 * gb xs (lead xs + 1 + 1)) ((lead xs + 1 : Nat) + 2) (ss), .bool true]) (by simp [results, Tryd.f30, go_sem, c0, c1, c2, c3, c4, c5, d0, d1, d2, d3, d4, d5]; (try omega)) rfl ?_
                   rw [hyes.1, hyes.2]
                   rw [hval.out]
                   exact ⟨rfl, (by repeat (first | with_reducible exact hbel | with_reducible refine Below.drew ?_ | with_reducible refine Below.setCell ?_ (by first | exact Nat.le_refl _ | (show w.heap.size ≤ w.heap.size + 1; omega)) _))⟩)
      · go_wp2_with fail
        refine (hat.out (lead xs) _ (by first | rfl | omega) (by omega) _ hbel).mono ?_
        rintro e w' ⟨rfl, rfl⟩
        go_wp2_with fail
        refine (hat.out (lead xs) _ (by first | rfl | omega) (by omega) _ hbel).mono ?_
        rintro e w' ⟨rfl, rfl⟩
        by_cases e203 : gb xs (lead xs) = 203
        · have fin0 := Lib.hid (hk.out 3 ss (gb xs (lead xs)) 5 (gb xs (lead xs + 2)) (gb xs (lead xs + 1)) (ss) (lead xs + 3) h034 rfl rfl (by rw [e203]; rfl) (by unfold hCode; rw [e203]; rfl) (by unfold hDisp; rw [e203]; rfl) (by rw [e203]; rfl) (by unfold hReads; rw [e203]; rfl))
          have hpl := Lib.hid (show ∀ W, Calls Tryd.prog 37 #[.int .u8 221, .int .u8 (gb xs (lead xs))] W fun e w' => e = .returned (.int .i64 5) ∧ W = w' from fun W => by have hh := rplane_221 (gb xs (lead xs)) W; rw [show hPlane 3 (gb xs (lead xs)) = 5 from (by rw [e203]; rfl)] at hh; exact hh)
          clear e203
          go_wp2_with fail
          refine (hat.out (lead xs) _ (by first | rfl | omega) (by omega) _ (by repeat (first | with_reducible exact hbel | with_reducible refine Below.setCell ?_ (by show w.heap.size ≤ w.heap.size + 1; omega) _))).mono ?_
          rintro e w' ⟨rfl, rfl⟩
          go_wp2_with fail
          refine (hpl.out _).mono ?_
          rintro e w' ⟨rfl, rfl⟩
          go_wp2_with fail
          refine (hat.out (lead xs + 1) _ (by first | rfl | omega) (by omega) _ (by repeat (first | with_reducible exact hbel | with_reducible refine Below.setCell ?_ (by show w.heap.size ≤ w.heap.size + 1; omega) _))).mono ?_
          rintro e w' ⟨rfl, rfl⟩
          go_wp2_with fail
          refine (hat.out (lead xs + 2) _ (by first | rfl | omega) (by omega) _ (by repeat (first | with_reducible exact hbel | with_reducible refine Below.setCell ?_ (by show w.heap.size ≤ w.heap.size + 1; omega) _))).mono ?_
          rintro e w' ⟨rfl, rfl⟩
          have hn : sizeM 5 (gb xs (lead xs + 2)) = 0 := rfl
          have hsz := Lib.hid (show ∀ W, Calls Tryd.prog 38 #[.int .i64 5, .int .u8 (gb xs (lead xs + 2))] W fun e w' => e = .returned (.int .i64 0) ∧ W = w' from fun W => by have hh := rsize_any 5 (gb xs (lead xs + 2)) (hbyte.out (lead xs + 2)) W; rw [hn] at hh; exact hh)
          rw [hn, show immM (gb xs) (lead xs + 3) 0 = 0 from rfl] at fin0
          have hval := Lib.hid (opB_of (opOf xs) (lenOf xs) fin0.out.1 (lenOf_eq xs) ((lead xs + 3 : Nat) + 0) (by rw [fin0.out.2]; first | rfl | omega))
          clear hn
          go_wp2_with fail
          refine (hsz.out _).mono ?_
          rintro e w' ⟨rfl, rfl⟩
          have r9 := Lib.hid (show Row ((((((wr).setCell ⟨w.heap.size + 1, 0, none⟩ (.int .i64 5)).setCell ⟨w.heap.size + 1, 2, none⟩ (.int .u8 (gb xs (lead xs + 1)))).setCell ⟨w.heap.size + 1, 1, none⟩ (.int .u8 (gb xs (lead xs + 2)))).setCell ⟨w.heap.size + 1, 4, none⟩ (.int .i64 ((lead xs : Int) + 3)))) (w.heap.size + 1) 24 #[.int .i64 5, .int .u8 (gb xs (lead xs + 2)), .int .u8 (gb xs (lead xs + 1)), .int .u16 0, .int .i64 ((lead xs : Int) + 3), .int .i64 ss] from ((((r1h.out).set 0 (.int .i64 5)).set 2 (.int .u8 (gb xs (lead xs + 1)))).set 1 (.int .u8 (gb xs (lead xs + 2)))).set 4 (.int .i64 ((lead xs : Int) + 3)))
          have hF9 := Lib.hid (show Fb w ((((((wr).setCell ⟨w.heap.size + 1, 0, none⟩ (.int .i64 5)).setCell ⟨w.heap.size + 1, 2, none⟩ (.int .u8 (gb xs (lead xs + 1)))).setCell ⟨w.heap.size + 1, 1, none⟩ (.int .u8 (gb xs (lead xs + 2)))).setCell ⟨w.heap.size + 1, 4, none⟩ (.int .i64 ((lead xs : Int) + 3)))) from ⟨(((((hFh.out).set 0 (.int .i64 5)).set 2 (.int .u8 (gb xs (lead xs + 1)))).set 1 (.int .u8 (gb xs (lead xs + 2)))).set 4 (.int .i64 ((lead xs : Int) + 3))).row, (((((hFh.out).set 0 (.int .i64 5)).set 2 (.int .u8 (gb xs (lead xs + 1)))).set 1 (.int .u8 (gb xs (lead xs + 2)))).set 4 (.int .i64 ((lead xs : Int) + 3))).bel⟩)
          go_upto_region 34 with (fail)
          generalize hWX : (((((wr).setCell ⟨w.heap.size + 1, 0, none⟩ (.int .i64 5)).setCell ⟨w.heap.size + 1, 2, none⟩ (.int .u8 (gb xs (lead xs + 1)))).setCell ⟨w.heap.size + 1, 1, none⟩ (.int .u8 (gb xs (lead xs + 2)))).setCell ⟨w.heap.size + 1, 4, none⟩ (.int .i64 ((lead xs : Int) + 3))) = W9 at *
          clear hWX c0 c1 c2 c3 c4 c5 f d0 d1 d2 d3 d4 d5 g hbel
          obtain ⟨⟨c0, c1, c2, c3, c4, c5⟩, f⟩ := row6 r9.out
          obtain ⟨⟨d0, d1, d2, d3, d4, d5⟩, g⟩ := row6 hF9.out.row
          have hbel := hF9.out.bel
          clear r9 hF9
          go_wp2
          all_goals
            rename_i hgt
            first
            | (have hno := hdone.out.2 (by rw [fin0.out.2]; omega)
               refine bodyPost_ret (v := .tuple #[opV 0 0 0 0 0 0, .bool false]) (by simp [results, Tryd.f30, go_sem, c0, c1, c2, c3, c4, c5, d0, d1, d2, d3, d4, d5]) rfl ?_
               rw [hno.1, hno.2]
               exact ⟨rfl, (by repeat (first | with_reducible exact hbel | with_reducible refine Below.drew ?_ | with_reducible refine Below.setCell ?_ (by first | exact Nat.le_refl _ | (show w.heap.size ≤ w.heap.size + 1; omega)) _))⟩)
            | (have hyes := hdone.out.1 (by rw [fin0.out.2]; omega)
               refine bodyPost_ret (v := .tuple #[opV 5 (gb xs (lead xs + 2)) (gb xs (lead xs + 1)) (0) ((lead xs + 3 : Nat) + 0) (ss), .bool true]) (by simp [results, Tryd.f30, go_sem, c0, c1, c2, c3, c4, c5, d0, d1, d2, d3, d4, d5]; (try omega)) rfl ?_
               rw [hyes.1, hyes.2]
               rw [hval.out]
               exact ⟨rfl, (by repeat (first | with_reducible exact hbel | with_reducible refine Below.drew ?_ | with_reducible refine Below.setCell ?_ (by first | exact Nat.le_refl _ | (show w.heap.size ≤ w.heap.size + 1; omega)) _))⟩)
        · by_cases e237 : gb xs (lead xs) = 237
          · have fin0 := Lib.hid (hk.out 3 ss (gb xs (lead xs)) 2 (gb xs (lead xs + 1)) (0) (ss + 1) (lead xs + 2) h034 rfl rfl (by rw [e237]; rfl) (by unfold hCode; rw [e237]; rfl) (by unfold hDisp; rw [e237]; rfl) (by rw [e237]; rfl) (by unfold hReads; rw [e237]; rfl))
            have hpl := Lib.hid (show ∀ W, Calls Tryd.prog 37 #[.int .u8 221, .int .u8 (gb xs (lead xs))] W fun e w' => e = .returned (.int .i64 2) ∧ W = w' from fun W => by have hh := rplane_221 (gb xs (lead xs)) W; rw [show hPlane 3 (gb xs (lead xs)) = 2 from (by rw [e237]; rfl)] at hh; exact hh)
            clear e203 e237
            go_wp2_with fail
            refine (hat.out (lead xs) _ (by first | rfl | omega) (by omega) _ (by repeat (first | with_reducible exact hbel | with_reducible refine Below.setCell ?_ (by show w.heap.size ≤ w.heap.size + 1; omega) _))).mono ?_
            rintro e w' ⟨rfl, rfl⟩
            go_wp2_with fail
            refine (hpl.out _).mono ?_
            rintro e w' ⟨rfl, rfl⟩
            go_wp2_with fail
            refine (hat.out (lead xs + 1) _ (by first | rfl | omega) (by omega) _ (by repeat (first | with_reducible exact hbel | with_reducible refine Below.setCell ?_ (by show w.heap.size ≤ w.heap.size + 1; omega) _))).mono ?_
            rintro e w' ⟨rfl, rfl⟩
            rcases sizeM_two (gb xs (lead xs + 1)) with hn | hn
            · have hsz := Lib.hid (show ∀ W, Calls Tryd.prog 38 #[.int .i64 2, .int .u8 (gb xs (lead xs + 1))] W fun e w' => e = .returned (.int .i64 0) ∧ W = w' from fun W => by have hh := rsize_any 2 (gb xs (lead xs + 1)) (hbyte.out (lead xs + 1)) W; rw [hn] at hh; exact hh)
              rw [hn, show immM (gb xs) (lead xs + 2) 0 = 0 from rfl] at fin0
              have hval := Lib.hid (opB_of (opOf xs) (lenOf xs) fin0.out.1 (lenOf_eq xs) ((lead xs + 2 : Nat) + 0) (by rw [fin0.out.2]; first | rfl | omega))
              clear hn
              go_wp2_with fail
              refine (hsz.out _).mono ?_
              rintro e w' ⟨rfl, rfl⟩
              have r9 := Lib.hid (show Row ((((((wr).setCell ⟨w.heap.size + 1, 0, none⟩ (.int .i64 2)).setCell ⟨w.heap.size + 1, 5, none⟩ (.int .i64 (ss + 1))).setCell ⟨w.heap.size + 1, 1, none⟩ (.int .u8 (gb xs (lead xs + 1)))).setCell ⟨w.heap.size + 1, 4, none⟩ (.int .i64 ((lead xs : Int) + 2)))) (w.heap.size + 1) 24 #[.int .i64 2, .int .u8 (gb xs (lead xs + 1)), .int .u8 0, .int .u16 0, .int .i64 ((lead xs : Int) + 2), .int .i64 (ss + 1)] from ((((r1h.out).set 0 (.int .i64 2)).set 5 (.int .i64 (ss + 1))).set 1 (.int .u8 (gb xs (lead xs + 1)))).set 4 (.int .i64 ((lead xs : Int) + 2)))
              have hF9 := Lib.hid (show Fb w ((((((wr).setCell ⟨w.heap.size + 1, 0, none⟩ (.int .i64 2)).setCell ⟨w.heap.size + 1, 5, none⟩ (.int .i64 (ss + 1))).setCell ⟨w.heap.size + 1, 1, none⟩ (.int .u8 (gb xs (lead xs + 1)))).setCell ⟨w.heap.size + 1, 4, none⟩ (.int .i64 ((lead xs : Int) + 2)))) from ⟨(((((hFh.out).set 0 (.int .i64 2)).set 5 (.int .i64 (ss + 1))).set 1 (.int .u8 (gb xs (lead xs + 1)))).set 4 (.int .i64 ((lead xs : Int) + 2))).row, (((((hFh.out).set 0 (.int .i64 2)).set 5 (.int .i64 (ss + 1))).set 1 (.int .u8 (gb xs (lead xs + 1)))).set 4 (.int .i64 ((lead xs : Int) + 2))).bel⟩)
              go_upto_region 34 with (fail)
              generalize hWX : (((((wr).setCell ⟨w.heap.size + 1, 0, none⟩ (.int .i64 2)).setCell ⟨w.heap.size + 1, 5, none⟩ (.int .i64 (ss + 1))).setCell ⟨w.heap.size + 1, 1, none⟩ (.int .u8 (gb xs (lead xs + 1)))).setCell ⟨w.heap.size + 1, 4, none⟩ (.int .i64 ((lead xs : Int) + 2))) = W9 at *
              clear hWX c0 c1 c2 c3 c4 c5 f d0 d1 d2 d3 d4 d5 g hbel
              obtain ⟨⟨c0, c1, c2, c3, c4, c5⟩, f⟩ := row6 r9.out
              obtain ⟨⟨d0, d1, d2, d3, d4, d5⟩, g⟩ := row6 hF9.out.row
              have hbel := hF9.out.bel
              clear r9 hF9
              go_wp2
              all_goals
                rename_i hgt
                first
                | (have hno := hdone.out.2 (by rw [fin0.out.2]; omega)
                   refine bodyPost_ret (v := .tuple #[opV 0 0 0 0 0 0, .bool false]) (by simp [results, Tryd.f30, go_sem, c0, c1, c2, c3, c4, c5, d0, d1, d2, d3, d4, d5]) rfl ?_
                   rw [hno.1, hno.2]
                   exact ⟨rfl, (by repeat (first | with_reducible exact hbel | with_reducible refine Below.drew ?_ | with_reducible refine Below.setCell ?_ (by first | exact Nat.le_refl _ | (show w.heap.size ≤ w.heap.size + 1; omega)) _))⟩)
                | (have hyes := hdone.out.1 (by rw [fin0.out.2]; omega)
                   refine bodyPost_ret (v := .tuple #[opV 2 (gb xs (lead xs + 1)) (0) (0) ((lead xs + 2 : Nat) + 0) (ss + 1), .bool true]) (by simp [results, Tryd.f30, go_sem, c0, c1, c2, c3, c4, c5, d0, d1, d2, d3, d4, d5]; (try omega)) rfl ?_
                   rw [hyes.1, hyes.2]
                   rw [hval.out]
                   exact ⟨rfl, (by repeat (first | with_reducible exact hbel | with_reducible refine Below.drew ?_ | with_reducible refine Below.setCell ?_ (by first | exact Nat.le_refl _ | (show w.heap.size ≤ w.heap.size + 1; omega)) _))⟩)
            · have hsz := Lib.hid (show ∀ W, Calls Tryd.prog 38 #[.int .i64 2, .int .u8 (gb xs (lead xs + 1))] W fun e w' => e = .returned (.int .i64 2) ∧ W = w' from fun W => by have hh := rsize_any 2 (gb xs (lead xs + 1)) (hbyte.out (lead xs + 1)) W; rw [hn] at hh; exact hh)
              rw [hn, show immM (gb xs) (lead xs + 2) 2 = gb xs (lead xs + 2) + 256 * gb xs (lead xs + 2 + 1) from by unfold immM; rw [if_neg (by decide), if_neg (by decide)]; omega] at fin0
              have hval := Lib.hid (opB_of (opOf xs) (lenOf xs) fin0.out.1 (lenOf_eq xs) ((lead xs + 2 : Nat) + 2) (by rw [fin0.out.2]; first | rfl | omega))
              clear hn
              go_wp2_with fail
              refine (hsz.out _).mono ?_
              rintro e w' ⟨rfl, rfl⟩
              have bR := hbyte.out (lead xs + 2)
              have bR0 := bR.1
              have bR1 := bR.2
              have bS := hbyte.out (lead xs + 2 + 1)
              have bS0 := bS.1
              have bS1 := bS.2
              go_wp2_with fail
              refine (hat.out (lead xs + 2) _ (by first | rfl | omega) (by omega) _ (by repeat (first | with_reducible exact hbel | with_reducible refine Below.setCell ?_ (by show w.heap.size ≤ w.heap.size + 1; omega) _))).mono ?_
              rintro e w' ⟨rfl, rfl⟩
              have r4 := Lib.hid (show Row (((((wr).setCell ⟨w.heap.size + 1, 0, none⟩ (.int .i64 2)).setCell ⟨w.heap.size + 1, 5, none⟩ (.int .i64 (ss + 1))).setCell ⟨w.heap.size + 1, 1, none⟩ (.int .u8 (gb xs (lead xs + 1)))).setCell ⟨w.heap.size + 1, 3, none⟩ (.int .u16 (gb xs (lead xs + 2)))) (w.heap.size + 1) 24 #[.int .i64 2, .int .u8 (gb xs (lead xs + 1)), .int .u8 0, .int .u16 (gb xs (lead xs + 2)), .int .i64 0, .int .i64 (ss + 1)] from ((((r1h.out).set 0 (.int .i64 2)).set 5 (.int .i64 (ss + 1))).set 1 (.int .u8 (gb xs (lead xs + 1)))).set 3 (.int .u16 (gb xs (lead xs + 2))))
              have hF4 := Lib.hid (((((hFh.out).set 0 (.int .i64 2)).set 5 (.int .i64 (ss + 1))).set 1 (.int .u8 (gb xs (lead xs + 1)))).set 3 (.int .u16 (gb xs (lead xs + 2))))
              go_upto_region 32 with (fail)
              generalize hWX : (((((wr).setCell ⟨w.heap.size + 1, 0, none⟩ (.int .i64 2)).setCell ⟨w.heap.size + 1, 5, none⟩ (.int .i64 (ss + 1))).setCell ⟨w.heap.size + 1, 1, none⟩ (.int .u8 (gb xs (lead xs + 1)))).setCell ⟨w.heap.size + 1, 3, none⟩ (.int .u16 (gb xs (lead xs + 2)))) = W4 at *
              clear hWX c0 c1 c2 c3 c4 c5 f d0 d1 d2 d3 d4 d5 g hbel hFh r1h
              obtain ⟨⟨c0, c1, c2, c3, c4, c5⟩, f⟩ := row6 r4.out
              obtain ⟨⟨d0, d1, d2, d3, d4, d5⟩, g⟩ := row6 hF4.out.row
              have hbel := hF4.out.bel
              have bdr := hbel.drew
              go_still_tail 10, (by kernel_rfl)
              still_call ((hat.out ((lead xs + 2) + 1) _ (by first | rfl | omega | (rw [IntKind.wrap_i64]; omega)) (by omega) W4.drew bdr).mono fun e w' h => ⟨h.1, h.2.symm⟩)
              repeat still_step
              refine wpStill_nil ?_
              change wpList _ _ _ _ _ W4.drew
              have r9 := Lib.hid (show Row ((((W4).setCell ⟨w.heap.size + 1, 3, none⟩ (.int .u16 (gb xs (lead xs + 2) + 256 * gb xs (lead xs + 2 + 1)))).setCell ⟨w.heap.size + 1, 4, none⟩ (.int .i64 ((lead xs : Int) + 2 + 2))).drew) (w.heap.size + 1) 24 #[.int .i64 2, .int .u8 (gb xs (lead xs + 1)), .int .u8 0, .int .u16 (gb xs (lead xs + 2) + 256 * gb xs (lead xs + 2 + 1)), .int .i64 ((lead xs : Int) + 2 + 2), .int .i64 (ss + 1)] from ((r4.out).set 3 (.int .u16 (gb xs (lead xs + 2) + 256 * gb xs (lead xs + 2 + 1)))).set 4 (.int .i64 ((lead xs : Int) + 2 + 2)))
              have hF9 := Lib.hid (show Fb w ((((W4).setCell ⟨w.heap.size + 1, 3, none⟩ (.int .u16 (gb xs (lead xs + 2) + 256 * gb xs (lead xs + 2 + 1)))).setCell ⟨w.heap.size + 1, 4, none⟩ (.int .i64 ((lead xs : Int) + 2 + 2))).drew) from ⟨(((hF4.out).set 3 (.int .u16 (gb xs (lead xs + 2) + 256 * gb xs (lead xs + 2 + 1)))).set 4 (.int .i64 ((lead xs : Int) + 2 + 2))).row, (((hF4.out).set 3 (.int .u16 (gb xs (lead xs + 2) + 256 * gb xs (lead xs + 2 + 1)))).set 4 (.int .i64 ((lead xs : Int) + 2 + 2))).bel.drew⟩)
              go_upto_region 34 with (fail)
              generalize hWX : (((W4).setCell ⟨w.heap.size + 1, 3, none⟩ (.int .u16 (gb xs (lead xs + 2) + 256 * gb xs (lead xs + 2 + 1)))).setCell ⟨w.heap.size + 1, 4, none⟩ (.int .i64 ((lead xs : Int) + 2 + 2))).drew = W9 at *
              clear hWX c0 c1 c2 c3 c4 c5 f d0 d1 d2 d3 d4 d5 g hbel
              obtain ⟨⟨c0, c1, c2, c3, c4, c5⟩, f⟩ := row6 r9.out
              obtain ⟨⟨d0, d1, d2, d3, d4, d5⟩, g⟩ := row6 hF9.out.row
              have hbel := hF9.out.bel
              clear r9 hF9
              go_wp2
              all_goals
                rename_i hgt
                first
                | (have hno := hdone.out.2 (by rw [fin0.out.2]; omega)
                   refine bodyPost_ret (v := .tuple #[opV 0 0 0 0 0 0, .bool false]) (by simp [results, Tryd.f30, go_sem, c0, c1, c2, c3, c4, c5, d0, d1, d2, d3, d4, d5]) rfl ?_
                   rw [hno.1, hno.2]
                   exact ⟨rfl, (by repeat (first | with_reducible exact hbel | with_reducible refine Below.drew ?_ | with_reducible refine Below.setCell ?_ (by first | exact Nat.le_refl _ | (show w.heap.size ≤ w.heap.size + 1; omega)) _))⟩)
                | (have hyes := hdone.out.1 (by rw [fin0.out.2]; omega)
                   refine bodyPost_ret (v := .tuple #[opV 2 (gb xs (lead xs + 1)) (0) (gb xs (lead xs + 2) + 256 * gb xs (lead xs + 2 + 1)) ((lead xs + 2 : Nat) + 2) (ss + 1), .bool true]) (by simp [results, Tryd.f30, go_sem, c0, c1, c2, c3, c4, c5, d0, d1, d2, d3, d4, d5]; (try omega)) rfl ?_
                   rw [hyes.1, hyes.2]
                   rw [hval.out]
                   exact ⟨rfl, (by repeat (first | with_reducible exact hbel | with_reducible refine Below.drew ?_ | with_reducible refine Below.setCell ?_ (by first | exact Nat.le_refl _ | (show w.heap.size ≤ w.heap.size + 1; omega)) _))⟩)
          · cases hN : nearM 3 (gb xs (lead xs))
            · have hPl : hPlane 3 (gb xs (lead xs)) = 3 := by unfold hPlane; rw [if_neg e203, if_neg e237]
              have fin0 := Lib.hid (hk.out 3 ss (gb xs (lead xs)) 3 (gb xs (lead xs)) (0) (ss) (lead xs + 1) h034 rfl rfl hPl (by unfold hCode; rw [hPl, if_neg (by decide), if_neg (by omega)]) (by unfold hDisp; rw [hPl, if_neg (by decide), if_neg (by omega), hN]; rfl) (by unfold hSkip; rw [if_neg (by omega)]) (by unfold hReads; rw [hPl, if_neg (by decide), if_neg (by omega), hN]; rfl))
              have hpl := Lib.hid (show ∀ W, Calls Tryd.prog 37 #[.int .u8 221, .int .u8 (gb xs (lead xs))] W fun e w' => e = .returned (.int .i64 3) ∧ W = w' from fun W => by have hh := rplane_221 (gb xs (lead xs)) W; rw [show hPlane 3 (gb xs (lead xs)) = 3 from hPl] at hh; exact hh)
              have hne := Lib.hid (show ∀ W, Calls Tryd.prog 26 #[.int .i64 3, .int .u8 (gb xs (lead xs))] W fun e w' => e = .returned (.bool false) ∧ W = w' from fun W => by have hh := drnear_any 3 (gb xs (lead xs)) (hbyte.out (lead xs)) W; rw [hN] at hh; exact hh)
              clear hN e203 e237 hPl
              go_wp2_with fail
              refine (hat.out (lead xs) _ (by first | rfl | omega) (by omega) _ (by repeat (first | with_reducible exact hbel | with_reducible refine Below.setCell ?_ (by show w.heap.size ≤ w.heap.size + 1; omega) _))).mono ?_
              rintro e w' ⟨rfl, rfl⟩
              go_wp2_with fail
              refine (hpl.out _).mono ?_
              rintro e w' ⟨rfl, rfl⟩
              go_wp2_with fail
              refine (hat.out (lead xs) _ (by first | rfl | omega) (by omega) _ (by repeat (first | with_reducible exact hbel | with_reducible refine Below.setCell ?_ (by show w.heap.size ≤ w.heap.size + 1; omega) _))).mono ?_
              rintro e w' ⟨rfl, rfl⟩
              go_wp2_with fail
              refine (hne.out _).mono ?_
              rintro e w' ⟨rfl, rfl⟩
              rcases sizeM_cases 3 (gb xs (lead xs)) with hn | hn | hn
              · have hsz := Lib.hid (show ∀ W, Calls Tryd.prog 38 #[.int .i64 3, .int .u8 (gb xs (lead xs))] W fun e w' => e = .returned (.int .i64 0) ∧ W = w' from fun W => by have hh := rsize_any 3 (gb xs (lead xs)) (hbyte.out (lead xs)) W; rw [hn] at hh; exact hh)
                rw [hn, show immM (gb xs) (lead xs + 1) 0 = 0 from rfl] at fin0
                have hval := Lib.hid (opB_of (opOf xs) (lenOf xs) fin0.out.1 (lenOf_eq xs) ((lead xs + 1 : Nat) + 0) (by rw [fin0.out.2]; first | rfl | omega))
                clear hn
                go_wp2_with fail
                refine (hsz.out _).mono ?_
                rintro e w' ⟨rfl, rfl⟩
                have r9 := Lib.hid (show Row (((((wr).setCell ⟨w.heap.size + 1, 0, none⟩ (.int .i64 3)).setCell ⟨w.heap.size + 1, 1, none⟩ (.int .u8 (gb xs (lead xs)))).setCell ⟨w.heap.size + 1, 4, none⟩ (.int .i64 ((lead xs : Int) + 1)))) (w.heap.size + 1) 24 #[.int .i64 3, .int .u8 (gb xs (lead xs)), .int .u8 0, .int .u16 0, .int .i64 ((lead xs : Int) + 1), .int .i64 ss] from (((r1h.out).set 0 (.int .i64 3)).set 1 (.int .u8 (gb xs (lead xs)))).set 4 (.int .i64 ((lead xs : Int) + 1)))
                have hF9 := Lib.hid (show Fb w (((((wr).setCell ⟨w.heap.size + 1, 0, none⟩ (.int .i64 3)).setCell ⟨w.heap.size + 1, 1, none⟩ (.int .u8 (gb xs (lead xs)))).setCell ⟨w.heap.size + 1, 4, none⟩ (.int .i64 ((lead xs : Int) + 1)))) from ⟨((((hFh.out).set 0 (.int .i64 3)).set 1 (.int .u8 (gb xs (lead xs)))).set 4 (.int .i64 ((lead xs : Int) + 1))).row, ((((hFh.out).set 0 (.int .i64 3)).set 1 (.int .u8 (gb xs (lead xs)))).set 4 (.int .i64 ((lead xs : Int) + 1))).bel⟩)
                go_upto_region 34 with (fail)
                generalize hWX : ((((wr).setCell ⟨w.heap.size + 1, 0, none⟩ (.int .i64 3)).setCell ⟨w.heap.size + 1, 1, none⟩ (.int .u8 (gb xs (lead xs)))).setCell ⟨w.heap.size + 1, 4, none⟩ (.int .i64 ((lead xs : Int) + 1))) = W9 at *
                clear hWX c0 c1 c2 c3 c4 c5 f d0 d1 d2 d3 d4 d5 g hbel
                obtain ⟨⟨c0, c1, c2, c3, c4, c5⟩, f⟩ := row6 r9.out
                obtain ⟨⟨d0, d1, d2, d3, d4, d5⟩, g⟩ := row6 hF9.out.row
                have hbel := hF9.out.bel
                clear r9 hF9
                go_wp2
                all_goals
                  rename_i hgt
                  first
                  | (have hno := hdone.out.2 (by rw [fin0.out.2]; omega)
                     refine bodyPost_ret (v := .tuple #[opV 0 0 0 0 0 0, .bool false]) (by simp [results, Tryd.f30, go_sem, c0, c1, c2, c3, c4, c5, d0, d1, d2, d3, d4, d5]) rfl ?_
                     rw [hno.1, hno.2]
                     exact ⟨rfl, (by repeat (first | with_reducible exact hbel | with_reducible refine Below.drew ?_ | with_reducible refine Below.setCell ?_ (by first | exact Nat.le_refl _ | (show w.heap.size ≤ w.heap.size + 1; omega)) _))⟩)
                  | (have hyes := hdone.out.1 (by rw [fin0.out.2]; omega)
                     refine bodyPost_ret (v := .tuple #[opV 3 (gb xs (lead xs)) (0) (0) ((lead xs + 1 : Nat) + 0) (ss), .bool true]) (by simp [results, Tryd.f30, go_sem, c0, c1, c2, c3, c4, c5, d0, d1, d2, d3, d4, d5]; (try omega)) rfl ?_
                     rw [hyes.1, hyes.2]
                     rw [hval.out]
                     exact ⟨rfl, (by repeat (first | with_reducible exact hbel | with_reducible refine Below.drew ?_ | with_reducible refine Below.setCell ?_ (by first | exact Nat.le_refl _ | (show w.heap.size ≤ w.heap.size + 1; omega)) _))⟩)
              · have hsz := Lib.hid (show ∀ W, Calls Tryd.prog 38 #[.int .i64 3, .int .u8 (gb xs (lead xs))] W fun e w' => e = .returned (.int .i64 1) ∧ W = w' from fun W => by have hh := rsize_any 3 (gb xs (lead xs)) (hbyte.out (lead xs)) W; rw [hn] at hh; exact hh)
                rw [hn, show immM (gb xs) (lead xs + 1) 1 = gb xs (lead xs + 1) from rfl] at fin0
                have hval := Lib.hid (opB_of (opOf xs) (lenOf xs) fin0.out.1 (lenOf_eq xs) ((lead xs + 1 : Nat) + 1) (by rw [fin0.out.2]; first | rfl | omega))
                clear hn
                go_wp2_with fail
                refine (hsz.out _).mono ?_
                rintro e w' ⟨rfl, rfl⟩
                have bR := hbyte.out (lead xs + 1)
                have bR0 := bR.1
                have bR1 := bR.2
                go_wp2_with fail
                refine (hat.out (lead xs + 1) _ (by first | rfl | omega) (by omega) _ (by repeat (first | with_reducible exact hbel | with_reducible refine Below.setCell ?_ (by show w.heap.size ≤ w.heap.size + 1; omega) _))).mono ?_
                rintro e w' ⟨rfl, rfl⟩
                have r9 := Lib.hid (show Row ((((((wr).setCell ⟨w.heap.size + 1, 0, none⟩ (.int .i64 3)).setCell ⟨w.heap.size + 1, 1, none⟩ (.int .u8 (gb xs (lead xs)))).setCell ⟨w.heap.size + 1, 3, none⟩ (.int .u16 (gb xs (lead xs + 1)))).setCell ⟨w.heap.size + 1, 4, none⟩ (.int .i64 ((lead xs : Int) + 1 + 1)))) (w.heap.size + 1) 24 #[.int .i64 3, .int .u8 (gb xs (lead xs)), .int .u8 0, .int .u16 (gb xs (lead xs + 1)), .int .i64 ((lead xs : Int) + 1 + 1), .int .i64 ss] from ((((r1h.out).set 0 (.int .i64 3)).set 1 (.int .u8 (gb xs (lead xs)))).set 3 (.int .u16 (gb xs (lead xs + 1)))).set 4 (.int .i64 ((lead xs : Int) + 1 + 1)))
                have hF9 := Lib.hid (show Fb w ((((((wr).setCell ⟨w.heap.size + 1, 0, none⟩ (.int .i64 3)).setCell ⟨w.heap.size + 1, 1, none⟩ (.int .u8 (gb xs (lead xs)))).setCell ⟨w.heap.size + 1, 3, none⟩ (.int .u16 (gb xs (lead xs + 1)))).setCell ⟨w.heap.size + 1, 4, none⟩ (.int .i64 ((lead xs : Int) + 1 + 1)))) from ⟨(((((hFh.out).set 0 (.int .i64 3)).set 1 (.int .u8 (gb xs (lead xs)))).set 3 (.int .u16 (gb xs (lead xs + 1)))).set 4 (.int .i64 ((lead xs : Int) + 1 + 1))).row, (((((hFh.out).set 0 (.int .i64 3)).set 1 (.int .u8 (gb xs (lead xs)))).set 3 (.int .u16 (gb xs (lead xs + 1)))).set 4 (.int .i64 ((lead xs : Int) + 1 + 1))).bel⟩)
                go_upto_region 34 with (fail)
                generalize hWX : (((((wr).setCell ⟨w.heap.size + 1, 0, none⟩ (.int .i64 3)).setCell ⟨w.heap.size + 1, 1, none⟩ (.int .u8 (gb xs (lead xs)))).setCell ⟨w.heap.size + 1, 3, none⟩ (.int .u16 (gb xs (lead xs + 1)))).setCell ⟨w.heap.size + 1, 4, none⟩ (.int .i64 ((lead xs : Int) + 1 + 1))) = W9 at *
                clear hWX c0 c1 c2 c3 c4 c5 f d0 d1 d2 d3 d4 d5 g hbel
                obtain ⟨⟨c0, c1, c2, c3, c4, c5⟩, f⟩ := row6 r9.out
                obtain ⟨⟨d0, d1, d2, d3, d4, d5⟩, g⟩ := row6 hF9.out.row
                have hbel := hF9.out.bel
                clear r9 hF9
                go_wp2
                all_goals
                  rename_i hgt
                  first
                  | (have hno := hdone.out.2 (by rw [fin0.out.2]; omega)
                     refine bodyPost_ret (v := .tuple #[opV 0 0 0 0 0 0, .bool false]) (by simp [results, Tryd.f30, go_sem, c0, c1, c2, c3, c4, c5, d0, d1, d2, d3, d4, d5]) rfl ?_
                     rw [hno.1, hno.2]
                     exact ⟨rfl, (by repeat (first | with_reducible exact hbel | with_reducible refine Below.drew ?_ | with_reducible refine Below.setCell ?_ (by first | exact Nat.le_refl _ | (show w.heap.size ≤ w.heap.size + 1; omega)) _))⟩)
                  | (have hyes := hdone.out.1 (by rw [fin0.out.2]; omega)
                     refine bodyPost_ret (v := .tuple #[opV 3 (gb xs (lead xs)) (0) (gb xs (lead xs + 1)) ((lead xs + 1 : Nat) + 1) (ss), .bool true]) (by simp [results, Tryd.f30, go_sem, c0, c1, c2, c3, c4, c5, d0, d1, d2, d3, d4, d5]; (try omega)) rfl ?_
                     rw [hyes.1, hyes.2]
                     rw [hval.out]
                     exact ⟨rfl, (by repeat (first | with_reducible exact hbel | with_reducible refine Below.drew ?_ | with_reducible refine Below.setCell ?_ (by first | exact Nat.le_refl _ | (show w.heap.size ≤ w.heap.size + 1; omega)) _))⟩)
              · have hsz := Lib.hid (show ∀ W, Calls Tryd.prog 38 #[.int .i64 3, .int .u8 (gb xs (lead xs))] W fun e w' => e = .returned (.int .i64 2) ∧ W = w' from fun W => by have hh := rsize_any 3 (gb xs (lead xs)) (hbyte.out (lead xs)) W; rw [hn] at hh; exact hh)
                rw [hn, show immM (gb xs) (lead xs + 1) 2 = gb xs (lead xs + 1) + 256 * gb xs (lead xs + 1 + 1) from by unfold immM; rw [if_neg (by decide), if_neg (by decide)]; omega] at fin0
                have hval := Lib.hid (opB_of (opOf xs) (lenOf xs) fin0.out.1 (lenOf_eq xs) ((lead xs + 1 : Nat) + 2) (by rw [fin0.out.2]; first | rfl | omega))
                clear hn
                go_wp2_with fail
                refine (hsz.out _).mono ?_
                rintro e w' ⟨rfl, rfl⟩
                have bR := hbyte.out (lead xs + 1)
                have bR0 := bR.1
                have bR1 := bR.2
                have bS := hbyte.out (lead xs + 1 + 1)
                have bS0 := bS.1
                have bS1 := bS.2
                go_wp2_with fail
                refine (hat.out (lead xs + 1) _ (by first | rfl | omega) (by omega) _ (by repeat (first | with_reducible exact hbel | with_reducible refine Below.setCell ?_ (by show w.heap.size ≤ w.heap.size + 1; omega) _))).mono ?_
                rintro e w' ⟨rfl, rfl⟩
                have r4 := Lib.hid (show Row ((((wr).setCell ⟨w.heap.size + 1, 0, none⟩ (.int .i64 3)).setCell ⟨w.heap.size + 1, 1, none⟩ (.int .u8 (gb xs (lead xs)))).setCell ⟨w.heap.size + 1, 3, none⟩ (.int .u16 (gb xs (lead xs + 1)))) (w.heap.size + 1) 24 #[.int .i64 3, .int .u8 (gb xs (lead xs)), .int .u8 0, .int .u16 (gb xs (lead xs + 1)), .int .i64 0, .int .i64 ss] from (((r1h.out).set 0 (.int .i64 3)).set 1 (.int .u8 (gb xs (lead xs)))).set 3 (.int .u16 (gb xs (lead xs + 1))))
                have hF4 := Lib.hid ((((hFh.out).set 0 (.int .i64 3)).set 1 (.int .u8 (gb xs (lead xs)))).set 3 (.int .u16 (gb xs (lead xs + 1))))
                go_upto_region 32 with (fail)
                generalize hWX : ((((wr).setCell ⟨w.heap.size + 1, 0, none⟩ (.int .i64 3)).setCell ⟨w.heap.size + 1, 1, none⟩ (.int .u8 (gb xs (lead xs)))).setCell ⟨w.heap.size + 1, 3, none⟩ (.int .u16 (gb xs (lead xs + 1)))) = W4 at *
                clear hWX c0 c1 c2 c3 c4 c5 f d0 d1 d2 d3 d4 d5 g hbel hFh r1h
                obtain ⟨⟨c0, c1, c2, c3, c4, c5⟩, f⟩ := row6 r4.out
                obtain ⟨⟨d0, d1, d2, d3, d4, d5⟩, g⟩ := row6 hF4.out.row
                have hbel := hF4.out.bel
                have bdr := hbel.drew
                go_still_tail 10, (by kernel_rfl)
                still_call ((hat.out ((lead xs + 1) + 1) _ (by first | rfl | omega | (rw [IntKind.wrap_i64]; omega)) (by omega) W4.drew bdr).mono fun e w' h => ⟨h.1, h.2.symm⟩)
                repeat still_step
                refine wpStill_nil ?_
                change wpList _ _ _ _ _ W4.drew
                have r9 := Lib.hid (show Row ((((W4).setCell ⟨w.heap.size + 1, 3, none⟩ (.int .u16 (gb xs (lead xs + 1) + 256 * gb xs (lead xs + 1 + 1)))).setCell ⟨w.heap.size + 1, 4, none⟩ (.int .i64 ((lead xs : Int) + 1 + 2))).drew) (w.heap.size + 1) 24 #[.int .i64 3, .int .u8 (gb xs (lead xs)), .int .u8 0, .int .u16 (gb xs (lead xs + 1) + 256 * gb xs (lead xs + 1 + 1)), .int .i64 ((lead xs : Int) + 1 + 2), .int .i64 ss] from ((r4.out).set 3 (.int .u16 (gb xs (lead xs + 1) + 256 * gb xs (lead xs + 1 + 1)))).set 4 (.int .i64 ((lead xs : Int) + 1 + 2)))
                have hF9 := Lib.hid (show Fb w ((((W4).setCell ⟨w.heap.size + 1, 3, none⟩ (.int .u16 (gb xs (lead xs + 1) + 256 * gb xs (lead xs + 1 + 1)))).setCell ⟨w.heap.size + 1, 4, none⟩ (.int .i64 ((lead xs : Int) + 1 + 2))).drew) from ⟨(((hF4.out).set 3 (.int .u16 (gb xs (lead xs + 1) + 256 * gb xs (lead xs + 1 + 1)))).set 4 (.int .i64 ((lead xs : Int) + 1 + 2))).row, (((hF4.out).set 3 (.int .u16 (gb xs (lead xs + 1) + 256 * gb xs (lead xs + 1 + 1)))).set 4 (.int .i64 ((lead xs : Int) + 1 + 2))).bel.drew⟩)
                go_upto_region 34 with (fail)
                generalize hWX : (((W4).setCell ⟨w.heap.size + 1, 3, none⟩ (.int .u16 (gb xs (lead xs + 1) + 256 * gb xs (lead xs + 1 + 1)))).setCell ⟨w.heap.size + 1, 4, none⟩ (.int .i64 ((lead xs : Int) + 1 + 2))).drew = W9 at *
                clear hWX c0 c1 c2 c3 c4 c5 f d0 d1 d2 d3 d4 d5 g hbel
                obtain ⟨⟨c0, c1, c2, c3, c4, c5⟩, f⟩ := row6 r9.out
                obtain ⟨⟨d0, d1, d2, d3, d4, d5⟩, g⟩ := row6 hF9.out.row
                have hbel := hF9.out.bel
                clear r9 hF9
                go_wp2
                all_goals
                  rename_i hgt
                  first
                  | (have hno := hdone.out.2 (by rw [fin0.out.2]; omega)
                     refine bodyPost_ret (v := .tuple #[opV 0 0 0 0 0 0, .bool false]) (by simp [results, Tryd.f30, go_sem, c0, c1, c2, c3, c4, c5, d0, d1, d2, d3, d4, d5]) rfl ?_
                     rw [hno.1, hno.2]
                     exact ⟨rfl, (by repeat (first | with_reducible exact hbel | with_reducible refine Below.drew ?_ | with_reducible refine Below.setCell ?_ (by first | exact Nat.le_refl _ | (show w.heap.size ≤ w.heap.size + 1; omega)) _))⟩)
                  | (have hyes := hdone.out.1 (by rw [fin0.out.2]; omega)
                     refine bodyPost_ret (v := .tuple #[opV 3 (gb xs (lead xs)) (0) (gb xs (lead xs + 1) + 256 * gb xs (lead xs + 1 + 1)) ((lead xs + 1 : Nat) + 2) (ss), .bool true]) (by simp [results, Tryd.f30, go_sem, c0, c1, c2, c3, c4, c5, d0, d1, d2, d3, d4, d5]; (try omega)) rfl ?_
                     rw [hyes.1, hyes.2]
                     rw [hval.out]
                     exact ⟨rfl, (by repeat (first | with_reducible exact hbel | with_reducible refine Below.drew ?_ | with_reducible refine Below.setCell ?_ (by first | exact Nat.le_refl _ | (show w.heap.size ≤ w.heap.size + 1; omega)) _))⟩)
            · have hPl : hPlane 3 (gb xs (lead xs)) = 3 := by unfold hPlane; rw [if_neg e203, if_neg e237]
              have fin0 := Lib.hid (hk.out 3 ss (gb xs (lead xs)) 3 (gb xs (lead xs)) (gb xs (lead xs + 1)) (ss) (lead xs + 2) h034 rfl rfl hPl (by unfold hCode; rw [hPl, if_neg (by decide), if_neg (by omega)]) (by unfold hDisp; rw [hPl, if_neg (by decide), if_neg (by omega), hN]; rfl) (by unfold hSkip; rw [if_neg (by omega)]) (by unfold hReads; rw [hPl, if_neg (by decide), if_neg (by omega), hN]; rfl))
              have hpl := Lib.hid (show ∀ W, Calls Tryd.prog 37 #[.int .u8 221, .int .u8 (gb xs (lead xs))] W fun e w' => e = .returned (.int .i64 3) ∧ W = w' from fun W => by have hh := rplane_221 (gb xs (lead xs)) W; rw [show hPlane 3 (gb xs (lead xs)) = 3 from hPl] at hh; exact hh)
              have hne := Lib.hid (show ∀ W, Calls Tryd.prog 26 #[.int .i64 3, .int .u8 (gb xs (lead xs))] W fun e w' => e = .returned (.bool true) ∧ W = w' from fun W => by have hh := drnear_any 3 (gb xs (lead xs)) (hbyte.out (lead xs)) W; rw [hN] at hh; exact hh)
              clear hN e203 e237 hPl
              go_wp2_with fail
              refine (hat.out (lead xs) _ (by first | rfl | omega) (by omega) _ (by repeat (first | with_reducible exact hbel | with_reducible refine Below.setCell ?_ (by show w.heap.size ≤ w.heap.size + 1; omega) _))).mono ?_
              rintro e w' ⟨rfl, rfl⟩
              go_wp2_with fail
              refine (hpl.out _).mono ?_
              rintro e w' ⟨rfl, rfl⟩
              go_wp2_with fail
              refine (hat.out (lead xs) _ (by first | rfl | omega) (by omega) _ (by repeat (first | with_reducible exact hbel | with_reducible refine Below.setCell ?_ (by show w.heap.size ≤ w.heap.size + 1; omega) _))).mono ?_
              rintro e w' ⟨rfl, rfl⟩
              go_wp2_with fail
              refine (hne.out _).mono ?_
              rintro e w' ⟨rfl, rfl⟩
              go_wp2_with fail
              refine (hat.out (lead xs + 1) _ (by first | rfl | omega) (by omega) _ (by repeat (first | with_reducible exact hbel | with_reducible refine Below.setCell ?_ (by show w.heap.size ≤ w.heap.size + 1; omega) _))).mono ?_
              rintro e w' ⟨rfl, rfl⟩
              rcases sizeM_cases 3 (gb xs (lead xs)) with hn | hn | hn
              · have hsz := Lib.hid (show ∀ W, Calls Tryd.prog 38 #[.int .i64 3, .int .u8 (gb xs (lead xs))] W fun e w' => e = .returned (.int .i64 0) ∧ W = w' from fun W => by have hh := rsize_any 3 (gb xs (lead xs)) (hbyte.out (lead xs)) W; rw [hn] at hh; exact hh)
                rw [hn, show immM (gb xs) (lead xs + 2) 0 = 0 from rfl] at fin0
                have hval := Lib.hid (opB_of (opOf xs) (lenOf xs) fin0.out.1 (lenOf_eq xs) ((lead xs + 2 : Nat) + 0) (by rw [fin0.out.2]; first | rfl | omega))
                clear hn
                go_wp2_with fail
                refine (hsz.out _).mono ?_
                rintro e w' ⟨rfl, rfl⟩
                have r9 := Lib.hid (show Row ((((((wr).setCell ⟨w.heap.size + 1, 0, none⟩ (.int .i64 3)).setCell ⟨w.heap.size + 1, 1, none⟩ (.int .u8 (gb xs (lead xs)))).setCell ⟨w.heap.size + 1, 2, none⟩ (.int .u8 (gb xs (lead xs + 1)))).setCell ⟨w.heap.size + 1, 4, none⟩ (.int .i64 ((lead xs : Int) + 1 + 1)))) (w.heap.size + 1) 24 #[.int .i64 3, .int .u8 (gb xs (lead xs)), .int .u8 (gb xs (lead xs + 1)), .int .u16 0, .int .i64 ((lead xs : Int) + 1 + 1), .int .i64 ss] from ((((r1h.out).set 0 (.int .i64 3)).set 1 (.int .u8 (gb xs (lead xs)))).set 2 (.int .u8 (gb xs (lead xs + 1)))).set 4 (.int .i64 ((lead xs : Int) + 1 + 1)))
                have hF9 := Lib.hid (show Fb w ((((((wr).setCell ⟨w.heap.size + 1, 0, none⟩ (.int .i64 3)).setCell ⟨w.heap.size + 1, 1, none⟩ (.int .u8 (gb xs (lead xs)))).setCell ⟨w.heap.size + 1, 2, none⟩ (.int .u8 (gb xs (lead xs + 1)))).setCell ⟨w.heap.size + 1, 4, none⟩ (.int .i64 ((lead xs : Int) + 1 + 1)))) from ⟨(((((hFh.out).set 0 (.int .i64 3)).set 1 (.int .u8 (gb xs (lead xs)))).set 2 (.int .u8 (gb xs (lead xs + 1)))).set 4 (.int .i64 ((lead xs : Int) + 1 + 1))).row, (((((hFh.out).set 0 (.int .i64 3)).set 1 (.int .u8 (gb xs (lead xs)))).set 2 (.int .u8 (gb xs (lead xs + 1)))).set 4 (.int .i64 ((lead xs : Int) + 1 + 1))).bel⟩)
                go_upto_region 34 with (fail)
                generalize hWX : (((((wr).setCell ⟨w.heap.size + 1, 0, none⟩ (.int .i64 3)).setCell ⟨w.heap.size + 1, 1, none⟩ (.int .u8 (gb xs (lead xs)))).setCell ⟨w.heap.size + 1, 2, none⟩ (.int .u8 (gb xs (lead xs + 1)))).setCell ⟨w.heap.size + 1, 4, none⟩ (.int .i64 ((lead xs : Int) + 1 + 1))) = W9 at *
                clear hWX c0 c1 c2 c3 c4 c5 f d0 d1 d2 d3 d4 d5 g hbel
                obtain ⟨⟨c0, c1, c2, c3, c4, c5⟩, f⟩ := row6 r9.out
                obtain ⟨⟨d0, d1, d2, d3, d4, d5⟩, g⟩ := row6 hF9.out.row
                have hbel := hF9.out.bel
                clear r9 hF9
                go_wp2
                all_goals
                  rename_i hgt
                  first
                  | (have hno := hdone.out.2 (by rw [fin0.out.2]; omega)
                     refine bodyPost_ret (v := .tuple #[opV 0 0 0 0 0 0, .bool false]) (by simp [results, Tryd.f30, go_sem, c0, c1, c2, c3, c4, c5, d0, d1, d2, d3, d4, d5]) rfl ?_
                     rw [hno.1, hno.2]
                     exact ⟨rfl, (by repeat (first | with_reducible exact hbel | with_reducible refine Below.drew ?_ | with_reducible refine Below.setCell ?_ (by first | exact Nat.le_refl _ | (show w.heap.size ≤ w.heap.size + 1; omega)) _))⟩)
                  | (have hyes := hdone.out.1 (by rw [fin0.out.2]; omega)
                     refine bodyPost_ret (v := .tuple #[opV 3 (gb xs (lead xs)) (gb xs (lead xs + 1)) (0) ((lead xs + 2 : Nat) + 0) (ss), .bool true]) (by simp [results, Tryd.f30, go_sem, c0, c1, c2, c3, c4, c5, d0, d1, d2, d3, d4, d5]; (try omega)) rfl ?_
                     rw [hyes.1, hyes.2]
                     rw [hval.out]
                     exact ⟨rfl, (by repeat (first | with_reducible exact hbel | with_reducible refine Below.drew ?_ | with_reducible refine Below.setCell ?_ (by first | exact Nat.le_refl _ | (show w.heap.size ≤ w.heap.size + 1; omega)) _))⟩)
              · have hsz := Lib.hid (show ∀ W, Calls Tryd.prog 38 #[.int .i64 3, .int .u8 (gb xs (lead xs))] W fun e w' => e = .returned (.int .i64 1) ∧ W = w' from fun W => by have hh := rsize_any 3 (gb xs (lead xs)) (hbyte.out (lead xs)) W; rw [hn] at hh; exact hh)
                rw [hn, show immM (gb xs) (lead xs + 2) 1 = gb xs (lead xs + 2) from rfl] at fin0
                have hval := Lib.hid (opB_of (opOf xs) (lenOf xs) fin0.out.1 (lenOf_eq xs) ((lead xs + 2 : Nat) + 1) (by rw [fin0.out.2]; first | rfl | omega))
                clear hn
                go_wp2_with fail
                refine (hsz.out _).mono ?_
                rintro e w' ⟨rfl, rfl⟩
                have bR := hbyte.out (lead xs + 2)
                have bR0 := bR.1
                have bR1 := bR.2
                go_wp2_with fail
                refine (hat.out (lead xs + 2) _ (by first | rfl | omega) (by omega) _ (by repeat (first | with_reducible exact hbel | with_reducible refine Below.setCell ?_ (by show w.heap.size ≤ w.heap.size + 1; omega) _))).mono ?_
                rintro e w' ⟨rfl, rfl⟩
                have r9 := Lib.hid (show Row (((((((wr).setCell ⟨w.heap.size + 1, 0, none⟩ (.int .i64 3)).setCell ⟨w.heap.size + 1, 1, none⟩ (.int .u8 (gb xs (lead xs)))).setCell ⟨w.heap.size + 1, 2, none⟩ (.int .u8 (gb xs (lead xs + 1)))).setCell ⟨w.heap.size + 1, 3, none⟩ (.int .u16 (gb xs (lead xs + 2)))).setCell ⟨w.heap.size + 1, 4, none⟩ (.int .i64 ((lead xs : Int) + 1 + 1 + 1)))) (w.heap.size + 1) 24 #[.int .i64 3, .int .u8 (gb xs (lead xs)), .int .u8 (gb xs (lead xs + 1)), .int .u16 (gb xs (lead xs + 2)), .int .i64 ((lead xs : Int) + 1 + 1 + 1), .int .i64 ss] from (((((r1h.out).set 0 (.int .i64 3)).set 1 (.int .u8 (gb xs (lead xs)))).set 2 (.int .u8 (gb xs (lead xs + 1)))).set 3 (.int .u16 (gb xs (lead xs + 2)))).set 4 (.int .i64 ((lead xs : Int) + 1 + 1 + 1)))
                have hF9 := Lib.hid (show Fb w (((((((wr).setCell ⟨w.heap.size + 1, 0, none⟩ (.int .i64 3)).setCell ⟨w.heap.size + 1, 1, none⟩ (.int .u8 (gb xs (lead xs)))).setCell ⟨w.heap.size + 1, 2, none⟩ (.int .u8 (gb xs (lead xs + 1)))).setCell ⟨w.heap.size + 1, 3, none⟩ (.int .u16 (gb xs (lead xs + 2)))).setCell ⟨w.heap.size + 1, 4, none⟩ (.int .i64 ((lead xs : Int) + 1 + 1 + 1)))) from ⟨((((((hFh.out).set 0 (.int .i64 3)).set 1 (.int .u8 (gb xs (lead xs)))).set 2 (.int .u8 (gb xs (lead xs + 1)))).set 3 (.int .u16 (gb xs (lead xs + 2)))).set 4 (.int .i64 ((lead xs : Int) + 1 + 1 + 1))).row, ((((((hFh.out).set 0 (.int .i64 3)).set 1 (.int .u8 (gb xs (lead xs)))).set 2 (.int .u8 (gb xs (lead xs + 1)))).set 3 (.int .u16 (gb xs (lead xs + 2)))).set 4 (.int .i64 ((lead xs : Int) + 1 + 1 + 1))).bel⟩)
                go_upto_region 34 with (fail)
                generalize hWX : ((((((wr).setCell ⟨w.heap.size + 1, 0, none⟩ (.int .i64 3)).setCell ⟨w.heap.size + 1, 1, none⟩ (.int .u8 (gb xs (lead xs)))).setCell ⟨w.heap.size + 1, 2, none⟩ (.int .u8 (gb xs (lead xs + 1)))).setCell ⟨w.heap.size + 1, 3, none⟩ (.int .u16 (gb xs (lead xs + 2)))).setCell ⟨w.heap.size + 1, 4, none⟩ (.int .i64 ((lead xs : Int) + 1 + 1 + 1))) = W9 at *
                clear hWX c0 c1 c2 c3 c4 c5 f d0 d1 d2 d3 d4 d5 g hbel
                obtain ⟨⟨c0, c1, c2, c3, c4, c5⟩, f⟩ := row6 r9.out
                obtain ⟨⟨d0, d1, d2, d3, d4, d5⟩, g⟩ := row6 hF9.out.row
                have hbel := hF9.out.bel
                clear r9 hF9
                go_wp2
                all_goals
                  rename_i hgt
                  first
                  | (have hno := hdone.out.2 (by rw [fin0.out.2]; omega)
                     refine bodyPost_ret (v := .tuple #[opV 0 0 0 0 0 0, .bool false]) (by simp [results, Tryd.f30, go_sem, c0, c1, c2, c3, c4, c5, d0, d1, d2, d3, d4, d5]) rfl ?_
                     rw [hno.1, hno.2]
                     exact ⟨rfl, (by repeat (first | with_reducible exact hbel | with_reducible refine Below.drew ?_ | with_reducible refine Below.setCell ?_ (by first | exact Nat.le_refl _ | (show w.heap.size ≤ w.heap.size + 1; omega)) _))⟩)
                  | (have hyes := hdone.out.1 (by rw [fin0.out.2]; omega)
                     refine bodyPost_ret (v := .tuple #[opV 3 (gb xs (lead xs)) (gb xs (lead xs + 1)) (gb xs (lead xs + 2)) ((lead xs + 2 : Nat) + 1) (ss), .bool true]) (by simp [results, Tryd.f30, go_sem, c0, c1, c2, c3, c4, c5, d0, d1, d2, d3, d4, d5]; (try omega)) rfl ?_
                     rw [hyes.1, hyes.2]
                     rw [hval.out]
                     exact ⟨rfl, (by repeat (first | with_reducible exact hbel | with_reducible refine Below.drew ?_ | with_reducible refine Below.setCell ?_ (by first | exact Nat.le_refl _ | (show w.heap.size ≤ w.heap.size + 1; omega)) _))⟩)
              · have hsz := Lib.hid (show ∀ W, Calls Tryd.prog 38 #[.int .i64 3, .int .u8 (gb xs (lead xs))] W fun e w' => e = .returned (.int .i64 2) ∧ W = w' from fun W => by have hh := rsize_any 3 (gb xs (lead xs)) (hbyte.out (lead xs)) W; rw [hn] at hh; exact hh)
                rw [hn, show immM (gb xs) (lead xs + 2) 2 = gb xs (lead xs + 2) + 256 * gb xs (lead xs + 2 + 1) from by unfold immM; rw [if_neg (by decide), if_neg (by decide)]; omega] at fin0
                have hval := Lib.hid (opB_of (opOf xs) (lenOf xs) fin0.out.1 (lenOf_eq xs) ((lead xs + 2 : Nat) + 2) (by rw [fin0.out.2]; first | rfl | omega))
                clear hn
                go_wp2_with fail
                refine (hsz.out _).mono ?_
                rintro e w' ⟨rfl, rfl⟩
                have bR := hbyte.out (lead xs + 2)
                have bR0 := bR.1
                have bR1 := bR.2
                have bS := hbyte.out (lead xs + 2 + 1)
                have bS0 := bS.1
                have bS1 := bS.2
                go_wp2_with fail
                refine (hat.out (lead xs + 2) _ (by first | rfl | omega) (by omega) _ (by repeat (first | with_reducible exact hbel | with_reducible refine Below.setCell ?_ (by show w.heap.size ≤ w.heap.size + 1; omega) _))).mono ?_
                rintro e w' ⟨rfl, rfl⟩
                have r4 := Lib.hid (show Row (((((wr).setCell ⟨w.heap.size + 1, 0, none⟩ (.int .i64 3)).setCell ⟨w.heap.size + 1, 1, none⟩ (.int .u8 (gb xs (lead xs)))).setCell ⟨w.heap.size + 1, 2, none⟩ (.int .u8 (gb xs (lead xs + 1)))).setCell ⟨w.heap.size + 1, 3, none⟩ (.int .u16 (gb xs (lead xs + 2)))) (w.heap.size + 1) 24 #[.int .i64 3, .int .u8 (gb xs (lead xs)), .int .u8 (gb xs (lead xs + 1)), .int .u16 (gb xs (lead xs + 2)), .int .i64 0, .int .i64 ss] from ((((r1h.out).set 0 (.int .i64 3)).set 1 (.int .u8 (gb xs (lead xs)))).set 2 (.int .u8 (gb xs (lead xs + 1)))).set 3 (.int .u16 (gb xs (lead xs + 2))))
                have hF4 := Lib.hid (((((hFh.out).set 0 (.int .i64 3)).set 1 (.int .u8 (gb xs (lead xs)))).set 2 (.int .u8 (gb xs (lead xs + 1)))).set 3 (.int .u16 (gb xs (lead xs + 2))))
                go_upto_region 32 with (fail)
                generalize hWX : (((((wr).setCell ⟨w.heap.size + 1, 0, none⟩ (.int .i64 3)).setCell ⟨w.heap.size + 1, 1, none⟩ (.int .u8 (gb xs (lead xs)))).setCell ⟨w.heap.size + 1, 2, none⟩ (.int .u8 (gb xs (lead xs + 1)))).setCell ⟨w.heap.size + 1, 3, none⟩ (.int .u16 (gb xs (lead xs + 2)))) = W4 at *
                clear hWX c0 c1 c2 c3 c4 c5 f d0 d1 d2 d3 d4 d5 g hbel hFh r1h
                obtain ⟨⟨c0, c1, c2, c3, c4, c5⟩, f⟩ := row6 r4.out
                obtain ⟨⟨d0, d1, d2, d3, d4, d5⟩, g⟩ := row6 hF4.out.row
                have hbel := hF4.out.bel
                have bdr := hbel.drew
                go_still_tail 10, (by kernel_rfl)
                still_call ((hat.out ((lead xs + 2) + 1) _ (by first | rfl | omega | (rw [IntKind.wrap_i64]; omega)) (by omega) W4.drew bdr).mono fun e w' h => ⟨h.1, h.2.symm⟩)
                repeat still_step
                refine wpStill_nil ?_
                change wpList _ _ _ _ _ W4.drew
                have r9 := Lib.hid (show Row ((((W4).setCell ⟨w.heap.size + 1, 3, none⟩ (.int .u16 (gb xs (lead xs + 2) + 256 * gb xs (lead xs + 2 + 1)))).setCell ⟨w.heap.size + 1, 4, none⟩ (.int .i64 ((lead xs : Int) + 1 + 1 + 2))).drew) (w.heap.size + 1) 24 #[.int .i64 3, .int .u8 (gb xs (lead xs)), .int .u8 (gb xs (lead xs + 1)), .int .u16 (gb xs (lead xs + 2) + 256 * gb xs (lead xs + 2 + 1)), .int .i64 ((lead xs : Int) + 1 + 1 + 2), .int .i64 ss] from ((r4.out).set 3 (.int .u16 (gb xs (lead xs + 2) + 256 * gb xs (lead xs + 2 + 1)))).set 4 (.int .i64 ((lead xs : Int) + 1 + 1 + 2)))
                have hF9 := Lib.hid (show Fb w ((((W4).setCell ⟨w.heap.size + 1, 3, none⟩ (.int .u16 (gb xs (lead xs + 2) + 256 * gb xs (lead xs + 2 + 1)))).setCell ⟨w.heap.size + 1, 4, none⟩ (.int .i64 ((lead xs : Int) + 1 + 1 + 2))).drew) from ⟨(((hF4.out).set 3 (.int .u16 (gb xs (lead xs + 2) + 256 * gb xs (lead xs + 2 + 1)))).set 4 (.int .i64 ((lead xs : Int) + 1 + 1 + 2))).row, (((hF4.out).set 3 (.int .u16 (gb xs (lead xs + 2) + 256 * gb xs (lead xs + 2 + 1)))).set 4 (.int .i64 ((lead xs : Int) + 1 + 1 + 2))).bel.drew⟩)
                go_upto_region 34 with (fail)
                generalize hWX : (((W4).setCell ⟨w.heap.size + 1, 3, none⟩ (.int .u16 (gb xs (lead xs + 2) + 256 * gb xs (lead xs + 2 + 1)))).setCell ⟨w.heap.size + 1, 4, none⟩ (.int .i64 ((lead xs : Int) + 1 + 1 + 2))).drew = W9 at *
                clear hWX c0 c1 c2 c3 c4 c5 f d0 d1 d2 d3 d4 d5 g hbel
                obtain ⟨⟨c0, c1, c2, c3, c4, c5⟩, f⟩ := row6 r9.out
                obtain ⟨⟨d0, d1, d2, d3, d4, d5⟩, g⟩ := row6 hF9.out.row
                have hbel := hF9.out.bel
                clear r9 hF9
                go_wp2
                all_goals
                  rename_i hgt
                  first
                  | (have hno := hdone.out.2 (by rw [fin0.out.2]; omega)
                     refine bodyPost_ret (v := .tuple #[opV 0 0 0 0 0 0, .bool false]) (by simp [results, Tryd.f30, go_sem, c0, c1, c2, c3, c4, c5, d0, d1, d2, d3, d4, d5]) rfl ?_
                     rw [hno.1, hno.2]
                     exact ⟨rfl, (by repeat (first | with_reducible exact hbel | with_reducible refine Below.drew ?_ | with_reducible refine Below.setCell ?_ (by first | exact Nat.le_refl _ | (show w.heap.size ≤ w.heap.size + 1; omega)) _))⟩)
                  | (have hyes := hdone.out.1 (by rw [fin0.out.2]; omega)
                     refine bodyPost_ret (v := .tuple #[opV 3 (gb xs (lead xs)) (gb xs (lead xs + 1)) (gb xs (lead xs + 2) + 256 * gb xs (lead xs + 2 + 1)) ((lead xs + 2 : Nat) + 2) (ss), .bool true]) (by simp [results, Tryd.f30, go_sem, c0, c1, c2, c3, c4, c5, d0, d1, d2, d3, d4, d5]; (try omega)) rfl ?_
                     rw [hyes.1, hyes.2]
                     rw [hval.out]
                     exact ⟨rfl, (by repeat (first | with_reducible exact hbel | with_reducible refine Below.drew ?_ | with_reducible refine Below.setCell ?_ (by first | exact Nat.le_refl _ | (show w.heap.size ≤ w.heap.size + 1; omega)) _))⟩)
      · go_wp2_with fail
        refine (hat.out (lead xs) _ (by first | rfl | omega) (by omega) _ hbel).mono ?_
        rintro e w' ⟨rfl, rfl⟩
        go_wp2_with fail
        refine (hat.out (lead xs) _ (by first | rfl | omega) (by omega) _ hbel).mono ?_
        rintro e w' ⟨rfl, rfl⟩
        by_cases e203 : gb xs (lead xs) = 203
        · have fin0 := Lib.hid (hk.out 4 ss (gb xs (lead xs)) 6 (gb xs (lead xs + 2)) (gb xs (lead xs + 1)) (ss) (lead xs + 3) h034 rfl rfl (by rw [e203]; rfl) (by unfold hCode; rw [e203]; rfl) (by unfold hDisp; rw [e203]; rfl) (by rw [e203]; rfl) (by unfold hReads; rw [e203]; rfl))
          have hpl := Lib.hid (show ∀ W, Calls Tryd.prog 37 #[.int .u8 253, .int .u8 (gb xs (lead xs))] W fun e w' => e = .returned (.int .i64 6) ∧ W = w' from fun W => by have hh := rplane_253 (gb xs (lead xs)) W; rw [show hPlane 4 (gb xs (lead xs)) = 6 from (by rw [e203]; rfl)] at hh; exact hh)
          clear e203
          go_wp2_with fail
          refine (hat.out (lead xs) _ (by first | rfl | omega) (by omega) _ (by repeat (first | with_reducible exact hbel | with_reducible refine Below.setCell ?_ (by show w.heap.size ≤ w.heap.size + 1; omega) _))).mono ?_
          rintro e w' ⟨rfl, rfl⟩
          go_wp2_with fail
          refine (hpl.out _).mono ?_
          rintro e w' ⟨rfl, rfl⟩
          go_wp2_with fail
          refine (hat.out (lead xs + 1) _ (by first | rfl | omega) (by omega) _ (by repeat (first | with_reducible exact hbel | with_reducible refine Below.setCell ?_ (by show w.heap.size ≤ w.heap.size + 1; omega) _))).mono ?_
          rintro e w' ⟨rfl, rfl⟩
          go_wp2_with fail
          refine (hat.out (lead xs + 2) _ (by first | rfl | omega) (by omega) _ (by repeat (first | with_reducible exact hbel | with_reducible refine Below.setCell ?_ (by show w.heap.size ≤ w.heap.size + 1; omega) _))).mono ?_
          rintro e w' ⟨rfl, rfl⟩
          have hn : sizeM 6 (gb xs (lead xs + 2)) = 0 := rfl
          have hsz := Lib.hid (show ∀ W, Calls Tryd.prog 38 #[.int .i64 6, .int .u8 (gb xs (lead xs + 2))] W fun e w' => e = .returned (.int .i64 0) ∧ W = w' from fun W => by have hh := rsize_any 6 (gb xs (lead xs + 2)) (hbyte.out (lead xs + 2)) W; rw [hn] at hh; exact hh)
          rw [hn, show immM (gb xs) (lead xs + 3) 0 = 0 from rfl] at fin0
          have hval := Lib.hid (opB_of (opOf xs) (lenOf xs) fin0.out.1 (lenOf_eq xs) ((lead xs + 3 : Nat) + 0) (by rw [fin0.out.2]; first | rfl | omega))
          clear hn
          go_wp2_with fail
          refine (hsz.out _).mono ?_
          rintro e w' ⟨rfl, rfl⟩
          have r9 := Lib.hid (show Row ((((((wr).setCell ⟨w.heap.size + 1, 0, none⟩ (.int .i64 6)).setCell ⟨w.heap.size + 1, 2, none⟩ (.int .u8 (gb xs (lead xs + 1)))).setCell ⟨w.heap.size + 1, 1, none⟩ (.int .u8 (gb xs (lead xs + 2)))).setCell ⟨w.heap.size + 1, 4, none⟩ (.int .i64 ((lead xs : Int) + 3)))) (w.heap.size + 1) 24 #[.int .i64 6, .int .u8 (gb xs (lead xs + 2)), .int .u8 (gb xs (lead xs + 1)), .int .u16 0, .int .i64 ((lead xs : Int) + 3), .int .i64 ss] from ((((r1h.out).set 0 (.int .i64 6)).set 2 (.int .u8 (gb xs (lead xs + 1)))).set 1 (.int .u8 (gb xs (lead xs + 2)))).set 4 (.int .i64 ((lead xs : Int) + 3)))
          have hF9 := Lib.hid (show Fb w ((((((wr).setCell ⟨w.heap.size + 1, 0, none⟩ (.int .i64 6)).setCell ⟨w.heap.size + 1, 2, none⟩ (.int .u8 (gb xs (lead xs + 1)))).setCell ⟨w.heap.size + 1, 1, none⟩ (.int .u8 (gb xs (lead xs + 2)))).setCell ⟨w.heap.size + 1, 4, none⟩ (.int .i64 ((lead xs : Int) + 3)))) from ⟨(((((hFh.out).set 0 (.int .i64 6)).set 2 (.int .u8 (gb xs (lead xs + 1)))).set 1 (.int .u8 (gb xs (lead xs + 2)))).set 4 (.int .i64 ((lead xs : Int) + 3))).row, (((((hFh.out).set 0 (.int .i64 6)).set 2 (.int .u8 (gb xs (lead xs + 1)))).set 1 (.int .u8 (gb xs (lead xs + 2)))).set 4 (.int .i64 ((lead xs : Int) + 3))).bel⟩)
          go_upto_region 34 with (fail)
          generalize hWX : (((((wr).setCell ⟨w.heap.size + 1, 0, none⟩ (.int .i64 6)).setCell ⟨w.heap.size + 1, 2, none⟩ (.int .u8 (gb xs (lead xs + 1)))).setCell ⟨w.heap.size + 1, 1, none⟩ (.int .u8 (gb xs (lead xs + 2)))).setCell ⟨w.heap.size + 1, 4, none⟩ (.int .i64 ((lead xs : Int) + 3))) = W9 at *
          clear hWX c0 c1 c2 c3 c4 c5 f d0 d1 d2 d3 d4 d5 g hbel
          obtain ⟨⟨c0, c1, c2, c3, c4, c5⟩, f⟩ := row6 r9.out
          obtain ⟨⟨d0, d1, d2, d3, d4, d5⟩, g⟩ := row6 hF9.out.row
          have hbel := hF9.out.bel
          clear r9 hF9
          go_wp2
          all_goals
            rename_i hgt
            first
            | (have hno := hdone.out.2 (by rw [fin0.out.2]; omega)
               refine bodyPost_ret (v := .tuple #[opV 0 0 0 0 0 0, .bool false]) (by simp [results, Tryd.f30, go_sem, c0, c1, c2, c3, c4, c5, d0, d1, d2, d3, d4, d5]) rfl ?_
               rw [hno.1, hno.2]
               exact ⟨rfl, (by repeat (first | with_reducible exact hbel | with_reducible refine Below.drew ?_ | with_reducible refine Below.setCell ?_ (by first | exact Nat.le_refl _ | (show w.heap.size ≤ w.heap.size + 1; omega)) _))⟩)
            | (have hyes := hdone.out.1 (by rw [fin0.out.2]; omega)
               refine bodyPost_ret (v := .tuple #[opV 6 (gb xs (lead xs + 2)) (gb xs (lead xs + 1)) (0) ((lead xs + 3 : Nat) + 0) (ss), .bool true]) (by simp [results, Tryd.f30, go_sem, c0, c1, c2, c3, c4, c5, d0, d1, d2, d3, d4, d5]; (try omega)) rfl ?_
               rw [hyes.1, hyes.2]
               rw [hval.out]
               exact ⟨rfl, (by repeat (first | with_reducible exact hbel | with_reducible refine Below.drew ?_ | with_reducible refine Below.setCell ?_ (by first | exact Nat.le_refl _ | (show w.heap.size ≤ w.heap.size + 1; omega)) _))⟩)
        · by_cases e237 : gb xs (lead xs) = 237
          · have fin0 := Lib.hid (hk.out 4 ss (gb xs (lead xs)) 2 (gb xs (lead xs + 1)) (0) (ss + 1) (lead xs + 2) h034 rfl rfl (by rw [e237]; rfl) (by unfold hCode; rw [e237]; rfl) (by unfold hDisp; rw [e237]; rfl) (by rw [e237]; rfl) (by unfold hReads; rw [e237]; rfl))
            have hpl := Lib.hid (show ∀ W, Calls Tryd.prog 37 #[.int .u8 253, .int .u8 (gb xs (lead xs))] W fun e w' => e = .returned (.int .i64 2) ∧ W = w' from fun W => by have hh := rplane_253 (gb xs (lead xs)) W; rw [show hPlane 4 (gb xs (lead xs)) = 2 from (by rw [e237]; rfl)] at hh; exact hh)
            clear e203 e237
            go_wp2_with fail
            refine (hat.out (lead xs) _ (by first | rfl | omega) (by omega) _ (by repeat (first | with_reducible exact hbel | with_reducible refine Below.setCell ?_ (by show w.heap.size ≤ w.heap.size + 1; omega) _))).mono ?_
            rintro e w' ⟨rfl, rfl⟩
            go_wp2_with fail
            refine (hpl.out _).mono ?_
            rintro e w' ⟨rfl, rfl⟩
            go_wp2_with fail
            refine (hat.out (lead xs + 1) _ (by first | rfl | omega) (by omega) _ (by repeat (first | with_reducible exact hbel | with_reducible refine Below.setCell ?_ (by show w.heap.size ≤ w.heap.size + 1; omega) _))).mono ?_
            rintro e w' ⟨rfl, rfl⟩
            rcases sizeM_two (gb xs (lead xs + 1)) with hn | hn
            · have hsz := Lib.hid (show ∀ W, Calls Tryd.prog 38 #[.int .i64 2, .int .u8 (gb xs (lead xs + 1))] W fun e w' => e = .returned (.int .i64 0) ∧ W = w' from fun W => by have hh := rsize_any 2 (gb xs (lead xs + 1)) (hbyte.out (lead xs + 1)) W; rw [hn] at hh; exact hh)
              rw [hn, show immM (gb xs) (lead xs + 2) 0 = 0 from rfl] at fin0
              have hval := Lib.hid (opB_of (opOf xs) (lenOf xs) fin0.out.1 (lenOf_eq xs) ((lead xs + 2 : Nat) + 0) (by rw [fin0.out.2]; first | rfl | omega))
              clear hn
              go_wp2_with fail
              refine (hsz.out _).mono ?_
              rintro e w' ⟨rfl, rfl⟩
              have r9 := Lib.hid (show Row ((((((wr).setCell ⟨w.heap.size + 1, 0, none⟩ (.int .i64 2)).setCell ⟨w.heap.size + 1, 5, none⟩ (.int .i64 (ss + 1))).setCell ⟨w.heap.size + 1, 1, none⟩ (.int .u8 (gb xs (lead xs + 1)))).setCell ⟨w.heap.size + 1, 4, none⟩ (.int .i64 ((lead xs : Int) + 2)))) (w.heap.size + 1) 24 #[.int .i64 2, .int .u8 (gb xs (lead xs + 1)), .int .u8 0, .int .u16 0, .int .i64 ((lead xs : Int) + 2), .int .i64 (ss + 1)] from ((((r1h.out).set 0 (.int .i64 2)).set 5 (.int .i64 (ss + 1))).set 1 (.int .u8 (gb xs (lead xs + 1)))).set 4 (.int .i64 ((lead xs : Int) + 2)))
              have hF9 := Lib.hid (show Fb w ((((((wr).setCell ⟨w.heap.size + 1, 0, none⟩ (.int .i64 2)).setCell ⟨w.heap.size + 1, 5, none⟩ (.int .i64 (ss + 1))).setCell ⟨w.heap.size + 1, 1, none⟩ (.int .u8 (gb xs (lead xs + 1)))).setCell ⟨w.heap.size + 1, 4, none⟩ (.int .i64 ((lead xs : Int) + 2)))) from ⟨(((((hFh.out).set 0 (.int .i64 2)).set 5 (.int .i64 (ss + 1))).set 1 (.int .u8 (gb xs (lead xs + 1)))).set 4 (.int .i64 ((lead xs : Int) + 2))).row, (((((hFh.out).set 0 (.int .i64 2)).set 5 (.int .i64 (ss + 1))).set 1 (.int .u8 (gb xs (lead xs + 1)))).set 4 (.int .i64 ((lead xs : Int) + 2))).bel⟩)
              go_upto_region 34 with (fail)
              generalize hWX : (((((wr).setCell ⟨w.heap.size + 1, 0, none⟩ (.int .i64 2)).setCell ⟨w.heap.size + 1, 5, none⟩ (.int .i64 (ss + 1))).setCell ⟨w.heap.size + 1, 1, none⟩ (.int .u8 (gb xs (lead xs + 1)))).setCell ⟨w.heap.size + 1, 4, none⟩ (.int .i64 ((lead xs : Int) + 2))) = W9 at *
              clear hWX c0 c1 c2 c3 c4 c5 f d0 d1 d2 d3 d4 d5 g hbel
              obtain ⟨⟨c0, c1, c2, c3, c4, c5⟩, f⟩ := row6 r9.out
              obtain ⟨⟨d0, d1, d2, d3, d4, d5⟩, g⟩ := row6 hF9.out.row
              have hbel := hF9.out.bel
              clear r9 hF9
              go_wp2
              all_goals
                rename_i hgt
                first
                | (have hno := hdone.out.2 (by rw [fin0.out.2]; omega)
                   refine bodyPost_ret (v := .tuple #[opV 0 0 0 0 0 0, .bool false]) (by simp [results, Tryd.f30, go_sem, c0, c1, c2, c3, c4, c5, d0, d1, d2, d3, d4, d5]) rfl ?_
                   rw [hno.1, hno.2]
                   exact ⟨rfl, (by repeat (first | with_reducible exact hbel | with_reducible refine Below.drew ?_ | with_reducible refine Below.setCell ?_ (by first | exact Nat.le_refl _ | (show w.heap.size ≤ w.heap.size + 1; omega)) _))⟩)
                | (have hyes := hdone.out.1 (by rw [fin0.out.2]; omega)
                   refine bodyPost_ret (v := .tuple #[opV 2 (gb xs (lead xs + 1)) (0) (0) ((lead xs + 2 : Nat) + 0) (ss + 1), .bool true]) (by simp [results, Tryd.f30, go_sem, c0, c1, c2, c3, c4, c5, d0, d1, d2, d3, d4, d5]; (try omega)) rfl ?_
                   rw [hyes.1, hyes.2]
                   rw [hval.out]
                   exact ⟨rfl, (by repeat (first | with_reducible exact hbel | with_reducible refine Below.drew ?_ | with_reducible refine Below.setCell ?_ (by first | exact Nat.le_refl _ | (show w.heap.size ≤ w.heap.size + 1; omega)) _))⟩)
            · have hsz := Lib.hid (show ∀ W, Calls Tryd.prog 38 #[.int .i64 2, .int .u8 (gb xs (lead xs + 1))] W fun e w' => e = .returned (.int .i64 2) ∧ W = w' from fun W => by have hh := rsize_any 2 (gb xs (lead xs + 1)) (hbyte.out (lead xs + 1)) W; rw [hn] at hh; exact hh)
              rw [hn, show immM (gb xs) (lead xs + 2) 2 = gb xs (lead xs + 2) + 256 * gb xs (lead xs + 2 + 1) from by unfold immM; rw [if_neg (by decide), if_neg (by decide)]; omega] at fin0
              have hval := Lib.hid (opB_of (opOf xs) (lenOf xs) fin0.out.1 (lenOf_eq xs) ((lead xs + 2 : Nat) + 2) (by rw [fin0.out.2]; first | rfl | omega))
              clear hn
              go_wp2_with fail
              refine (hsz.out _).mono ?_
              rintro e w' ⟨rfl, rfl⟩
              have bR := hbyte.out (lead xs + 2)
              have bR0 := bR.1
              have bR1 := bR.2
              have bS := hbyte.out (lead xs + 2 + 1)
              have bS0 := bS.1
              have bS1 := bS.2
              go_wp2_with fail
              refine (hat.out (lead xs + 2) _ (by first | rfl | omega) (by omega) _ (by repeat (first | with_reducible exact hbel | with_reducible refine Below.setCell ?_ (by show w.heap.size ≤ w.heap.size + 1; omega) _))).mono ?_
              rintro e w' ⟨rfl, rfl⟩
              have r4 := Lib.hid (show Row (((((wr).setCell ⟨w.heap.size + 1, 0, none⟩ (.int .i64 2)).setCell ⟨w.heap.size + 1, 5, none⟩ (.int .i64 (ss + 1))).setCell ⟨w.heap.size + 1, 1, none⟩ (.int .u8 (gb xs (lead xs + 1)))).setCell ⟨w.heap.size + 1, 3, none⟩ (.int .u16 (gb xs (lead xs + 2)))) (w.heap.size + 1) 24 #[.int .i64 2, .int .u8 (gb xs (lead xs + 1)), .int .u8 0, .int .u16 (gb xs (lead xs + 2)), .int .i64 0, .int .i64 (ss + 1)] from ((((r1h.out).set 0 (.int .i64 2)).set 5 (.int .i64 (ss + 1))).set 1 (.int .u8 (gb xs (lead xs + 1)))).set 3 (.int .u16 (gb xs (lead xs + 2))))
              have hF4 := Lib.hid (((((hFh.out).set 0 (.int .i64 2)).set 5 (.int .i64 (ss + 1))).set 1 (.int .u8 (gb xs (lead xs + 1)))).set 3 (.int .u16 (gb xs (lead xs + 2))))
              go_upto_region 32 with (fail)
              generalize hWX : (((((wr).setCell ⟨w.heap.size + 1, 0, none⟩ (.int .i64 2)).setCell ⟨w.heap.size + 1, 5, none⟩ (.int .i64 (ss + 1))).setCell ⟨w.heap.size + 1, 1, none⟩ (.int .u8 (gb xs (lead xs + 1)))).setCell ⟨w.heap.size + 1, 3, none⟩ (.int .u16 (gb xs (lead xs + 2)))) = W4 at *
              clear hWX c0 c1 c2 c3 c4 c5 f d0 d1 d2 d3 d4 d5 g hbel hFh r1h
              obtain ⟨⟨c0, c1, c2, c3, c4, c5⟩, f⟩ := row6 r4.out
              obtain ⟨⟨d0, d1, d2, d3, d4, d5⟩, g⟩ := row6 hF4.out.row
              have hbel := hF4.out.bel
              have bdr := hbel.drew
              go_still_tail 10, (by kernel_rfl)
              still_call ((hat.out ((lead xs + 2) + 1) _ (by first | rfl | omega | (rw [IntKind.wrap_i64]; omega)) (by omega) W4.drew bdr).mono fun e w' h => ⟨h.1, h.2.symm⟩)
              repeat still_step
              refine wpStill_nil ?_
              change wpList _ _ _ _ _ W4.drew
              have r9 := Lib.hid (show Row ((((W4).setCell ⟨w.heap.size + 1, 3, none⟩ (.int .u16 (gb xs (lead xs + 2) + 256 * gb xs (lead xs + 2 + 1)))).setCell ⟨w.heap.size + 1, 4, none⟩ (.int .i64 ((lead xs : Int) + 2 + 2))).drew) (w.heap.size + 1) 24 #[.int .i64 2, .int .u8 (gb xs (lead xs + 1)), .int .u8 0, .int .u16 (gb xs (lead xs + 2) + 256 * gb xs (lead xs + 2 + 1)), .int .i64 ((lead xs : Int) + 2 + 2), .int .i64 (ss + 1)] from ((r4.out).set 3 (.int .u16 (gb xs (lead xs + 2) + 256 * gb xs (lead xs + 2 + 1)))).set 4 (.int .i64 ((lead xs : Int) + 2 + 2)))
              have hF9 := Lib.hid (show Fb w ((((W4).setCell ⟨w.heap.size + 1, 3, none⟩ (.int .u16 (gb xs (lead xs + 2) + 256 * gb xs (lead xs + 2 + 1)))).setCell ⟨w.heap.size + 1, 4, none⟩ (.int .i64 ((lead xs : Int) + 2 + 2))).drew) from ⟨(((hF4.out).set 3 (.int .u16 (gb xs (lead xs + 2) + 256 * gb xs (lead xs + 2 + 1)))).set 4 (.int .i64 ((lead xs : Int) + 2 + 2))).row, (((hF4.out).set 3 (.int .u16 (gb xs (lead xs + 2) + 256 * gb xs (lead xs + 2 + 1)))).set 4 (.int .i64 ((lead xs : Int) + 2 + 2))).bel.drew⟩)
              go_upto_region 34 with (fail)
              generalize hWX : (((W4).setCell ⟨w.heap.size + 1, 3, none⟩ (.int .u16 (gb xs (lead xs + 2) + 256 * gb xs (lead xs + 2 + 1)))).setCell ⟨w.heap.size + 1, 4, none⟩ (.int .i64 ((lead xs : Int) + 2 + 2))).drew = W9 at *
              clear hWX c0 c1 c2 c3 c4 c5 f d0 d1 d2 d3 d4 d5 g hbel
              obtain ⟨⟨c0, c1, c2, c3, c4, c5⟩, f⟩ := row6 r9.out
              obtain ⟨⟨d0, d1, d2, d3, d4, d5⟩, g⟩ := row6 hF9.out.row
              have hbel := hF9.out.bel
              clear r9 hF9
              go_wp2
              all_goals
                rename_i hgt
                first
                | (have hno := hdone.out.2 (by rw [fin0.out.2]; omega)
                   refine bodyPost_ret (v := .tuple #[opV 0 0 0 0 0 0, .bool false]) (by simp [results, Tryd.f30, go_sem, c0, c1, c2, c3, c4, c5, d0, d1, d2, d3, d4, d5]) rfl ?_
                   rw [hno.1, hno.2]
                   exact ⟨rfl, (by repeat (first | with_reducible exact hbel | with_reducible refine Below.drew ?_ | with_reducible refine Below.setCell ?_ (by first | exact Nat.le_refl _ | (show w.heap.size ≤ w.heap.size + 1; omega)) _))⟩)
                | (have hyes := hdone.out.1 (by rw [fin0.out.2]; omega)
                   refine bodyPost_ret (v := .tuple #[opV 2 (gb xs (lead xs + 1)) (0) (gb xs (lead xs + 2) + 256 * gb xs (lead xs + 2 + 1)) ((lead xs + 2 : Nat) + 2) (ss + 1), .bool true]) (by simp [results, Tryd.f30, go_sem, c0, c1, c2, c3, c4, c5, d0, d1, d2, d3, d4, d5]; (try omega)) rfl ?_
                   rw [hyes.1, hyes.2]
                   rw [hval.out]
                   exact ⟨rfl, (by repeat (first | with_reducible exact hbel | with_reducible refine Below.drew ?_ | with_reducible refine Below.setCell ?_ (by first | exact Nat.le_refl _ | (show w.heap.size ≤ w.heap.size + 1; omega)) _))⟩)
          · cases hN : nearM 4 (gb xs (lead xs))
            · have hPl : hPlane 4 (gb xs (lead xs)) = 4 := by unfold hPlane; rw [if_neg e203, if_neg e237]
              have fin0 := Lib.hid (hk.out 4 ss (gb xs (lead xs)) 4 (gb xs (lead xs)) (0) (ss) (lead xs + 1) h034 rfl rfl hPl (by unfold hCode; rw [hPl, if_neg (by decide), if_neg (by omega)]) (by unfold hDisp; rw [hPl, if_neg (by decide), if_neg (by omega), hN]; rfl) (by unfold hSkip; rw [if_neg (by omega)]) (by unfold hReads; rw [hPl, if_neg (by decide), if_neg (by omega), hN]; rfl))
              have hpl := Lib.hid (show ∀ W, Calls Tryd.prog 37 #[.int .u8 253, .int .u8 (gb xs (lead xs))] W fun e w' => e = .returned (.int .i64 4) ∧ W = w' from fun W => by have hh := rplane_253 (gb xs (lead xs)) W; rw [show hPlane 4 (gb xs (lead xs)) = 4 from hPl] at hh; exact hh)
              have hne := Lib.hid (show ∀ W, Calls Tryd.prog 26 #[.int .i64 4, .int .u8 (gb xs (lead xs))] W fun e w' => e = .returned (.bool false) ∧ W = w' from fun W => by have hh := drnear_any 4 (gb xs (lead xs)) (hbyte.out (lead xs)) W; rw [hN] at hh; exact hh)
              clear hN e203 e237 hPl
              go_wp2_with fail
              refine (hat.out (lead xs) _ (by first | rfl | omega) (by omega) _ (by repeat (first | with_reducible exact hbel | with_reducible refine Below.setCell ?_ (by show w.heap.size ≤ w.heap.size + 1; omega) _))).mono ?_
              rintro e w' ⟨rfl, rfl⟩
              go_wp2_with fail
              refine (hpl.out _).mono ?_
              rintro e w' ⟨rfl, rfl⟩
              go_wp2_with fail
              refine (hat.out (lead xs) _ (by first | rfl | omega) (by omega) _ (by repeat (first | with_reducible exact hbel | with_reducible refine Below.setCell ?_ (by show w.heap.size ≤ w.heap.size + 1; omega) _))).mono ?_
              rintro e w' ⟨rfl, rfl⟩
              go_wp2_with fail
              refine (hne.out _).mono ?_
              rintro e w' ⟨rfl, rfl⟩
              rcases sizeM_cases 4 (gb xs (lead xs)) with hn | hn | hn
              · have hsz := Lib.hid (show ∀ W, Calls Tryd.prog 38 #[.int .i64 4, .int .u8 (gb xs (lead xs))] W fun e w' => e = .returned (.int .i64 0) ∧ W = w' from fun W => by have hh := rsize_any 4 (gb xs (lead xs)) (hbyte.out (lead xs)) W; rw [hn] at hh; exact hh)
                rw [hn, show immM (gb xs) (lead xs + 1) 0 = 0 from rfl] at fin0
                have hval := Lib.hid (opB_of (opOf xs) (lenOf xs) fin0.out.1 (lenOf_eq xs) ((lead xs + 1 : Nat) + 0) (by rw [fin0.out.2]; first | rfl | omega))
                clear hn
                go_wp2_with fail
                refine (hsz.out _).mono ?_
                rintro e w' ⟨rfl, rfl⟩
                have r9 := Lib.hid (show Row (((((wr).setCell ⟨w.heap.size + 1, 0, none⟩ (.int .i64 4)).setCell ⟨w.heap.size + 1, 1, none⟩ (.int .u8 (gb xs (lead xs)))).setCell ⟨w.heap.size + 1, 4, none⟩ (.int .i64 ((lead xs : Int) + 1)))) (w.heap.size + 1) 24 #[.int .i64 4, .int .u8 (gb xs (lead xs)), .int .u8 0, .int .u16 0, .int .i64 ((lead xs : Int) + 1), .int .i64 ss] from (((r1h.out).set 0 (.int .i64 4)).set 1 (.int .u8 (gb xs (lead xs)))).set 4 (.int .i64 ((lead xs : Int) + 1)))
                have hF9 := Lib.hid (show Fb w (((((wr).setCell ⟨w.heap.size + 1, 0, none⟩ (.int .i64 4)).setCell ⟨w.heap.size + 1, 1, none⟩ (.int .u8 (gb xs (lead xs)))).setCell ⟨w.heap.size + 1, 4, none⟩ (.int .i64 ((lead xs : Int) + 1)))) from ⟨((((hFh.out).set 0 (.int .i64 4)).set 1 (.int .u8 (gb xs (lead xs)))).set 4 (.int .i64 ((lead xs : Int) + 1))).row, ((((hFh.out).set 0 (.int .i64 4)).set 1 (.int .u8 (gb xs (lead xs)))).set 4 (.int .i64 ((lead xs : Int) + 1))).bel⟩)
                go_upto_region 34 with (fail)
                generalize hWX : ((((wr).setCell ⟨w.heap.size + 1, 0, none⟩ (.int .i64 4)).setCell ⟨w.heap.size + 1, 1, none⟩ (.int .u8 (gb xs (lead xs)))).setCell ⟨w.heap.size + 1, 4, none⟩ (.int .i64 ((lead xs : Int) + 1))) = W9 at *
                clear hWX c0 c1 c2 c3 c4 c5 f d0 d1 d2 d3 d4 d5 g hbel
                obtain ⟨⟨c0, c1, c2, c3, c4, c5⟩, f⟩ := row6 r9.out
                obtain ⟨⟨d0, d1, d2, d3, d4, d5⟩, g⟩ := row6 hF9.out.row
                have hbel := hF9.out.bel
                clear r9 hF9
                go_wp2
                all_goals
                  rename_i hgt
                  first
                  | (have hno := hdone.out.2 (by rw [fin0.out.2]; omega)
                     refine bodyPost_ret (v := .tuple #[opV 0 0 0 0 0 0, .bool false]) (by simp [results, Tryd.f30, go_sem, c0, c1, c2, c3, c4, c5, d0, d1, d2, d3, d4, d5]) rfl ?_
                     rw [hno.1, hno.2]
                     exact ⟨rfl, (by repeat (first | with_reducible exact hbel | with_reducible refine Below.drew ?_ | with_reducible refine Below.setCell ?_ (by first | exact Nat.le_refl _ | (show w.heap.size ≤ w.heap.size + 1; omega)) _))⟩)
                  | (have hyes := hdone.out.1 (by rw [fin0.out.2]; omega)
                     refine bodyPost_ret (v := .tuple #[opV 4 (gb xs (lead xs)) (0) (0) ((lead xs + 1 : Nat) + 0) (ss), .bool true]) (by simp [results, Tryd.f30, go_sem, c0, c1, c2, c3, c4, c5, d0, d1, d2, d3, d4, d5]; (try omega)) rfl ?_
                     rw [hyes.1, hyes.2]
                     rw [hval.out]
                     exact ⟨rfl, (by repeat (first | with_reducible exact hbel | with_reducible refine Below.drew ?_ | with_reducible refine Below.setCell ?_ (by first | exact Nat.le_refl _ | (show w.heap.size ≤ w.heap.size + 1; omega)) _))⟩)
              · have hsz := Lib.hid (show ∀ W, Calls Tryd.prog 38 #[.int .i64 4, .int .u8 (gb xs (lead xs))] W fun e w' => e = .returned (.int .i64 1) ∧ W = w' from fun W => by have hh := rsize_any 4 (gb xs (lead xs)) (hbyte.out (lead xs)) W; rw [hn] at hh; exact hh)
                rw [hn, show immM (gb xs) (lead xs + 1) 1 = gb xs (lead xs + 1) from rfl] at fin0
                have hval := Lib.hid (opB_of (opOf xs) (lenOf xs) fin0.out.1 (lenOf_eq xs) ((lead xs + 1 : Nat) + 1) (by rw [fin0.out.2]; first | rfl | omega))
                clear hn
                go_wp2_with fail
                refine (hsz.out _).mono ?_
                rintro e w' ⟨rfl, rfl⟩
                have bR := hbyte.out (lead xs + 1)
                have bR0 := bR.1
                have bR1 := bR.2
                go_wp2_with fail
                refine (hat.out (lead xs + 1) _ (by first | rfl | omega) (by omega) _ (by repeat (first | with_reducible exact hbel | with_reducible refine Below.setCell ?_ (by show w.heap.size ≤ w.heap.size + 1; omega) _))).mono ?_
                rintro e w' ⟨rfl, rfl⟩
                have r9 := Lib.hid (show Row ((((((wr).setCell ⟨w.heap.size + 1, 0, none⟩ (.int .i64 4)).setCell ⟨w.heap.size + 1, 1, none⟩ (.int .u8 (gb xs (lead xs)))).setCell ⟨w.heap.size + 1, 3, none⟩ (.int .u16 (gb xs (lead xs + 1)))).setCell ⟨w.heap.size + 1, 4, none⟩ (.int .i64 ((lead xs : Int) + 1 + 1)))) (w.heap.size + 1) 24 #[.int .i64 4, .int .u8 (gb xs (lead xs)), .int .u8 0, .int .u16 (gb xs (lead xs + 1)), .int .i64 ((lead xs : Int) + 1 + 1), .int .i64 ss] from ((((r1h.out).set 0 (.int .i64 4)).set 1 (.int .u8 (gb xs (lead xs)))).set 3 (.int .u16 (gb xs (lead xs + 1)))).set 4 (.int .i64 ((lead xs : Int) + 1 + 1)))
                have hF9 := Lib.hid (show Fb w ((((((wr).setCell ⟨w.heap.size + 1, 0, none⟩ (.int .i64 4)).setCell ⟨w.heap.size + 1, 1, none⟩ (.int .u8 (gb xs (lead xs)))).setCell ⟨w.heap.size + 1, 3, none⟩ (.int .u16 (gb xs (lead xs + 1)))).setCell ⟨w.heap.size + 1, 4, none⟩ (.int .i64 ((lead xs : Int) + 1 + 1)))) from ⟨(((((hFh.out).set 0 (.int .i64 4)).set 1 (.int .u8 (gb xs (lead xs)))).set 3 (.int .u16 (gb xs (lead xs + 1)))).set 4 (.int .i64 ((lead xs : Int) + 1 + 1))).row, (((((hFh.out).set 0 (.int .i64 4)).set 1 (.int .u8 (gb xs (lead xs)))).set 3 (.int .u16 (gb xs (lead xs + 1)))).set 4 (.int .i64 ((lead xs : Int) + 1 + 1))).bel⟩)
                go_upto_region 34 with (fail)
                generalize hWX : (((((wr).setCell ⟨w.heap.size + 1, 0, none⟩ (.int .i64 4)).setCell ⟨w.heap.size + 1, 1, none⟩ (.int .u8 (gb xs (lead xs)))).setCell ⟨w.heap.size + 1, 3, none⟩ (.int .u16 (gb xs (lead xs + 1)))).setCell ⟨w.heap.size + 1, 4, none⟩ (.int .i64 ((lead xs : Int) + 1 + 1))) = W9 at *
                clear hWX c0 c1 c2 c3 c4 c5 f d0 d1 d2 d3 d4 d5 g hbel
                obtain ⟨⟨c0, c1, c2, c3, c4, c5⟩, f⟩ := row6 r9.out
                obtain ⟨⟨d0, d1, d2, d3, d4, d5⟩, g⟩ := row6 hF9.out.row
                have hbel := hF9.out.bel
                clear r9 hF9
                go_wp2
                all_goals
                  rename_i hgt
                  first
                  | (have hno := hdone.out.2 (by rw [fin0.out.2]; omega)
                     refine bodyPost_ret (v := .tuple #[opV 0 0 0 0 0 0, .bool false]) (by simp [results, Tryd.f30, go_sem, c0, c1, c2, c3, c4, c5, d0, d1, d2, d3, d4, d5]) rfl ?_
                     rw [hno.1, hno.2]
                     exact ⟨rfl, (by repeat (first | with_reducible exact hbel | with_reducible refine Below.drew ?_ | with_reducible refine Below.setCell ?_ (by first | exact Nat.le_refl _ | (show w.heap.size ≤ w.heap.size + 1; omega)) _))⟩)
                  | (have hyes := hdone.out.1 (by rw [fin0.out.2]; omega)
                     refine bodyPost_ret (v := .tuple #[opV 4 (gb xs (lead xs)) (0) (gb xs (lead xs + 1)) ((lead xs + 1 : Nat) + 1) (ss), .bool true]) (by simp [results, Tryd.f30, go_sem, c0, c1, c2, c3, c4, c5, d0, d1, d2, d3, d4, d5]; (try omega)) rfl ?_
                     rw [hyes.1, hyes.2]
                     rw [hval.out]
                     exact ⟨rfl, (by repeat (first | with_reducible exact hbel | with_reducible refine Below.drew ?_ | with_reducible refine Below.setCell ?_ (by first | exact Nat.le_refl _ | (show w.heap.size ≤ w.heap.size + 1; omega)) _))⟩)
              · have hsz := Lib.hid (show ∀ W, Calls Tryd.prog 38 #[.int .i64 4, .int .u8 (gb xs (lead xs))] W fun e w' => e = .returned (.int .i64 2) ∧ W = w' from fun W => by have hh := rsize_any 4 (gb xs (lead xs)) (hbyte.out (lead xs)) W; rw [hn] at hh; exact hh)
                rw [hn, show immM (gb xs) (lead xs + 1) 2 = gb xs (lead xs + 1) + 256 * gb xs (lead xs + 1 + 1) from by unfold immM; rw [if_neg (by decide), if_neg (by decide)]; omega] at fin0
                have hval := Lib.hid (opB_of (opOf xs) (lenOf xs) fin0.out.1 (lenOf_eq xs) ((lead xs + 1 : Nat) + 2) (by rw [fin0.out.2]; first | rfl | omega))
                clear hn
                go_wp2_with fail
                refine (hsz.out _).mono ?_
                rintro e w' ⟨rfl, rfl⟩
                have bR := hbyte.out (lead xs + 1)
                have bR0 := bR.1
                have bR1 := bR.2
                have bS := hbyte.out (lead xs + 1 + 1)
                have bS0 := bS.1
                have bS1 := bS.2
                go_wp2_with fail
                refine (hat.out (lead xs + 1) _ (by first | rfl | omega) (by omega) _ (by repeat (first | with_reducible exact hbel | with_reducible refine Below.setCell ?_ (by show w.heap.size ≤ w.heap.size + 1; omega) _))).mono ?_
                rintro e w' ⟨rfl, rfl⟩
                have r4 := Lib.hid (show Row ((((wr).setCell ⟨w.heap.size + 1, 0, none⟩ (.int .i64 4)).setCell ⟨w.heap.size + 1, 1, none⟩ (.int .u8 (gb xs (lead xs)))).setCell ⟨w.heap.size + 1, 3, none⟩ (.int .u16 (gb xs (lead xs + 1)))) (w.heap.size + 1) 24 #[.int .i64 4, .int .u8 (gb xs (lead xs)), .int .u8 0, .int .u16 (gb xs (lead xs + 1)), .int .i64 0, .int .i64 ss] from (((r1h.out).set 0 (.int .i64 4)).set 1 (.int .u8 (gb xs (lead xs)))).set 3 (.int .u16 (gb xs (lead xs + 1))))
                have hF4 := Lib.hid ((((hFh.out).set 0 (.int .i64 4)).set 1 (.int .u8 (gb xs (lead xs)))).set 3 (.int .u16 (gb xs (lead xs + 1))))
                go_upto_region 32 with (fail)
                generalize hWX : ((((wr).setCell ⟨w.heap.size + 1, 0, none⟩ (.int .i64 4)).setCell ⟨w.heap.size + 1, 1, none⟩ (.int .u8 (gb xs (lead xs)))).setCell ⟨w.heap.size + 1, 3, none⟩ (.int .u16 (gb xs (lead xs + 1)))) = W4 at *
                clear hWX c0 c1 c2 c3 c4 c5 f d0 d1 d2 d3 d4 d5 g hbel hFh r1h
                obtain ⟨⟨c0, c1, c2, c3, c4, c5⟩, f⟩ := row6 r4.out
                obtain ⟨⟨d0, d1, d2, d3, d4, d5⟩, g⟩ := row6 hF4.out.row
                have hbel := hF4.out.bel
                have bdr := hbel.drew
                go_still_tail 10, (by kernel_rfl)
                still_call ((hat.out ((lead xs + 1) + 1) _ (by first | rfl | omega | (rw [IntKind.wrap_i64]; omega)) (by omega) W4.drew bdr).mono fun e w' h => ⟨h.1, h.2.symm⟩)
                repeat still_step
                refine wpStill_nil ?_
                change wpList _ _ _ _ _ W4.drew
                have r9 := Lib.hid (show Row ((((W4).setCell ⟨w.heap.size + 1, 3, none⟩ (.int .u16 (gb xs (lead xs + 1) + 256 * gb xs (lead xs + 1 + 1)))).setCell ⟨w.heap.size + 1, 4, none⟩ (.int .i64 ((lead xs : Int) + 1 + 2))).drew) (w.heap.size + 1) 24 #[.int .i64 4, .int .u8 (gb xs (lead xs)), .int .u8 0, .int .u16 (gb xs (lead xs + 1) + 256 * gb xs (lead xs + 1 + 1)), .int .i64 ((lead xs : Int) + 1 + 2), .int .i64 ss] from ((r4.out).set 3 (.int .u16 (gb xs (lead xs + 1) + 256 * gb xs (lead xs + 1 + 1)))).set 4 (.int .i64 ((lead xs : Int) + 1 + 2)))
                have hF9 := Lib.hid (show Fb w ((((W4).setCell ⟨w.heap.size + 1, 3, none⟩ (.int .u16 (gb xs (lead xs + 1) + 256 * gb xs (lead xs + 1 + 1)))).setCell ⟨w.heap.size + 1, 4, none⟩ (.int .i64 ((lead xs : Int) + 1 + 2))).drew) from ⟨(((hF4.out).set 3 (.int .u16 (gb xs (lead xs + 1) + 256 * gb xs (lead xs + 1 + 1)))).set 4 (.int .i64 ((lead xs : Int) + 1 + 2))).row, (((hF4.out).set 3 (.int .u16 (gb xs (lead xs + 1) + 256 * gb xs (lead xs + 1 + 1)))).set 4 (.int .i64 ((lead xs : Int) + 1 + 2))).bel.drew⟩)
                go_upto_region 34 with (fail)
                generalize hWX : (((W4).setCell ⟨w.heap.size + 1, 3, none⟩ (.int .u16 (gb xs (lead xs + 1) + 256 * gb xs (lead xs + 1 + 1)))).setCell ⟨w.heap.size + 1, 4, none⟩ (.int .i64 ((lead xs : Int) + 1 + 2))).drew = W9 at *
                clear hWX c0 c1 c2 c3 c4 c5 f d0 d1 d2 d3 d4 d5 g hbel
                obtain ⟨⟨c0, c1, c2, c3, c4, c5⟩, f⟩ := row6 r9.out
                obtain ⟨⟨d0, d1, d2, d3, d4, d5⟩, g⟩ := row6 hF9.out.row
                have hbel := hF9.out.bel
                clear r9 hF9
                go_wp2
                all_goals
                  rename_i hgt
                  first
                  | (have hno := hdone.out.2 (by rw [fin0.out.2]; omega)
                     refine bodyPost_ret (v := .tuple #[opV 0 0 0 0 0 0, .bool false]) (by simp [results, Tryd.f30, go_sem, c0, c1, c2, c3, c4, c5, d0, d1, d2, d3, d4, d5]) rfl ?_
                     rw [hno.1, hno.2]
                     exact ⟨rfl, (by repeat (first | with_reducible exact hbel | with_reducible refine Below.drew ?_ | with_reducible refine Below.setCell ?_ (by first | exact Nat.le_refl _ | (show w.heap.size ≤ w.heap.size + 1; omega)) _))⟩)
                  | (have hyes := hdone.out.1 (by rw [fin0.out.2]; omega)
                     refine bodyPost_ret (v := .tuple #[opV 4 (gb xs (lead xs)) (0) (gb xs (lead xs + 1) + 256 * gb xs (lead xs + 1 + 1)) ((lead xs + 1 : Nat) + 2) (ss), .bool true]) (by simp [results, Tryd.f30, go_sem, c0, c1, c2, c3, c4, c5, d0, d1, d2, d3, d4, d5]; (try omega)) rfl ?_
                     rw [hyes.1, hyes.2]
                     rw [hval.out]
                     exact ⟨rfl, (by repeat (first | with_reducible exact hbel | with_reducible refine Below.drew ?_ | with_reducible refine Below.setCell ?_ (by first | exact Nat.le_refl _ | (show w.heap.size ≤ w.heap.size + 1; omega)) _))⟩)
            · have hPl : hPlane 4 (gb xs (lead xs)) = 4 := by unfold hPlane; rw [if_neg e203, if_neg e237]
              have fin0 := Lib.hid (hk.out 4 ss (gb xs (lead xs)) 4 (gb xs (lead xs)) (gb xs (lead xs + 1)) (ss) (lead xs + 2) h034 rfl rfl hPl (by unfold hCode; rw [hPl, if_neg (by decide), if_neg (by omega)]) (by unfold hDisp; rw [hPl, if_neg (by decide), if_neg (by omega), hN]; rfl) (by unfold hSkip; rw [if_neg (by omega)]) (by unfold hReads; rw [hPl, if_neg (by decide), if_neg (by omega), hN]; rfl))
              have hpl := Lib.hid (show ∀ W, Calls Tryd.prog 37 #[.int .u8 253, .int .u8 (gb xs (lead xs))] W fun e w' => e = .returned (.int .i64 4) ∧ W = w' from fun W => by have hh := rplane_253 (gb xs (lead xs)) W; rw [show hPlane 4 (gb xs (lead xs)) = 4 from hPl] at hh; exact hh)
              have hne := Lib.hid (show ∀ W, Calls Tryd.prog 26 #[.int .i64 4, .int .u8 (gb xs (lead xs))] W fun e w' => e = .returned (.bool true) ∧ W = w' from fun W => by have hh := drnear_any 4 (gb xs (lead xs)) (hbyte.out (lead xs)) W; rw [hN] at hh; exact hh)
              clear hN e203 e237 hPl
              go_wp2_with fail
              refine (hat.out (lead xs) _ (by first | rfl | omega) (by omega) _ (by repeat (first | with_reducible exact hbel | with_reducible refine Below.setCell ?_ (by show w.heap.size ≤ w.heap.size + 1; omega) _))).mono ?_
              rintro e w' ⟨rfl, rfl⟩
              go_wp2_with fail
              refine (hpl.out _).mono ?_
              rintro e w' ⟨rfl, rfl⟩
              go_wp2_with fail
              refine (hat.out (lead xs) _ (by first | rfl | omega) (by omega) _ (by repeat (first | with_reducible exact hbel | with_reducible refine Below.setCell ?_ (by show w.heap.size ≤ w.heap.size + 1; omega) _))).mono ?_
              rintro e w' ⟨rfl, rfl⟩
              go_wp2_with fail
              refine (hne.out _).mono ?_
              rintro e w' ⟨rfl, rfl⟩
              go_wp2_with fail
              refine (hat.out (lead xs + 1) _ (by first | rfl | omega) (by omega) _ (by repeat (first | with_reducible exact hbel | with_reducible refine Below.setCell ?_ (by show w.heap.size ≤ w.heap.size + 1; omega) _))).mono ?_
              rintro e w' ⟨rfl, rfl⟩
              rcases sizeM_cases 4 (gb xs (lead xs)) with hn | hn | hn
              · have hsz := Lib.hid (show ∀ W, Calls Tryd.prog 38 #[.int .i64 4, .int .u8 (gb xs (lead xs))] W fun e w' => e = .returned (.int .i64 0) ∧ W = w' from fun W => by have hh := rsize_any 4 (gb xs (lead xs)) (hbyte.out (lead xs)) W; rw [hn] at hh; exact hh)
                rw [hn, show immM (gb xs) (lead xs + 2) 0 = 0 from rfl] at fin0
                have hval := Lib.hid (opB_of (opOf xs) (lenOf xs) fin0.out.1 (lenOf_eq xs) ((lead xs + 2 : Nat) + 0) (by rw [fin0.out.2]; first | rfl | omega))
                clear hn
                go_wp2_with fail
                refine (hsz.out _).mono ?_
                rintro e w' ⟨rfl, rfl⟩
                have r9 := Lib.hid (show Row ((((((wr).setCell ⟨w.heap.size + 1, 0, none⟩ (.int .i64 4)).setCell ⟨w.heap.size + 1, 1, none⟩ (.int .u8 (gb xs (lead xs)))).setCell ⟨w.heap.size + 1, 2, none⟩ (.int .u8 (gb xs (lead xs + 1)))).setCell ⟨w.heap.size + 1, 4, none⟩ (.int .i64 ((lead xs : Int) + 1 + 1)))) (w.heap.size + 1) 24 #[.int .i64 4, .int .u8 (gb xs (lead xs)), .int .u8 (gb xs (lead xs + 1)), .int .u16 0, .int .i64 ((lead xs : Int) + 1 + 1), .int .i64 ss] from ((((r1h.out).set 0 (.int .i64 4)).set 1 (.int .u8 (gb xs (lead xs)))).set 2 (.int .u8 (gb xs (lead xs + 1)))).set 4 (.int .i64 ((lead xs : Int) + 1 + 1)))
                have hF9 := Lib.hid (show Fb w ((((((wr).setCell ⟨w.heap.size + 1, 0, none⟩ (.int .i64 4)).setCell ⟨w.heap.size + 1, 1, none⟩ (.int .u8 (gb xs (lead xs)))).setCell ⟨w.heap.size + 1, 2, none⟩ (.int .u8 (gb xs (lead xs + 1)))).setCell ⟨w.heap.size + 1, 4, none⟩ (.int .i64 ((lead xs : Int) + 1 + 1)))) from ⟨(((((hFh.out).set 0 (.int .i64 4)).set 1 (.int .u8 (gb xs (lead xs)))).set 2 (.int .u8 (gb xs (lead xs + 1)))).set 4 (.int .i64 ((lead xs : Int) + 1 + 1))).row, (((((hFh.out).set 0 (.int .i64 4)).set 1 (.int .u8 (gb xs (lead xs)))).set 2 (.int .u8 (gb xs (lead xs + 1)))).set 4 (.int .i64 ((lead xs : Int) + 1 + 1))).bel⟩)
                go_upto_region 34 with (fail)
                generalize hWX : (((((wr).setCell ⟨w.heap.size + 1, 0, none⟩ (.int .i64 4)).setCell ⟨w.heap.size + 1, 1, none⟩ (.int .u8 (gb xs (lead xs)))).setCell ⟨w.heap.size + 1, 2, none⟩ (.int .u8 (gb xs (lead xs + 1)))).setCell ⟨w.heap.size + 1, 4, none⟩ (.int .i64 ((lead xs : Int) + 1 + 1))) = W9 at *
                clear hWX c0 c1 c2 c3 c4 c5 f d0 d1 d2 d3 d4 d5 g hbel
                obtain ⟨⟨c0, c1, c2, c3, c4, c5⟩, f⟩ := row6 r9.out
                obtain ⟨⟨d0, d1, d2, d3, d4, d5⟩, g⟩ := row6 hF9.out.row
                have hbel := hF9.out.bel
                clear r9 hF9
                go_wp2
                all_goals
                  rename_i hgt
                  first
                  | (have hno := hdone.out.2 (by rw [fin0.out.2]; omega)
                     refine bodyPost_ret (v := .tuple #[opV 0 0 0 0 0 0, .bool false]) (by simp [results, Tryd.f30, go_sem, c0, c1, c2, c3, c4, c5, d0, d1, d2, d3, d4, d5]) rfl ?_
                     rw [hno.1, hno.2]
                     exact ⟨rfl, (by repeat (first | with_reducible exact hbel | with_reducible refine Below.drew ?_ | with_reducible refine Below.setCell ?_ (by first | exact Nat.le_refl _ | (show w.heap.size ≤ w.heap.size + 1; omega)) _))⟩)
                  | (have hyes := hdone.out.1 (by rw [fin0.out.2]; omega)
                     refine bodyPost_ret (v := .tuple #[opV 4 (gb xs (lead xs)) (gb xs (lead xs + 1)) (0) ((lead xs + 2 : Nat) + 0) (ss), .bool true]) (by simp [results, Tryd.f30, go_sem, c0, c1, c2, c3, c4, c5, d0, d1, d2, d3, d4, d5]; (try omega)) rfl ?_
                     rw [hyes.1, hyes.2]
                     rw [hval.out]
                     exact ⟨rfl, (by repeat (first | with_reducible exact hbel | with_reducible refine Below.drew ?_ | with_reducible refine Below.setCell ?_ (by first | exact Nat.le_refl _ | (show w.heap.size ≤ w.heap.size + 1; omega)) _))⟩)
              · have hsz := Lib.hid (show ∀ W, Calls Tryd.prog 38 #[.int .i64 4, .int .u8 (gb xs (lead xs))] W fun e w' => e = .returned (.int .i64 1) ∧ W = w' from fun W => by have hh := rsize_any 4 (gb xs (lead xs)) (hbyte.out (lead xs)) W; rw [hn] at hh; exact hh)
                rw [hn, show immM (gb xs) (lead xs + 2) 1 = gb xs (lead xs + 2) from rfl] at fin0
                have hval := Lib.hid (opB_of (opOf xs) (lenOf xs) fin0.out.1 (lenOf_eq xs) ((lead xs + 2 : Nat) + 1) (by rw [fin0.out.2]; first | rfl | omega))
                clear hn
                go_wp2_with fail
                refine (hsz.out _).mono ?_
                rintro e w' ⟨rfl, rfl⟩
                have bR := hbyte.out (lead xs + 2)
                have bR0 := bR.1
                have bR1 := bR.2
                go_wp2_with fail
                refine (hat.out (lead xs + 2) _ (by first | rfl | omega) (by omega) _ (by repeat (first | with_reducible exact hbel | with_reducible refine Below.setCell ?_ (by show w.heap.size ≤ w.heap.size + 1; omega) _))).mono ?_
                rintro e w' ⟨rfl, rfl⟩
                have r9 := Lib.hid (show Row (((((((wr).setCell ⟨w.heap.size + 1, 0, none⟩ (.int .i64 4)).setCell ⟨w.heap.size + 1, 1, none⟩ (.int .u8 (gb xs (lead xs)))).setCell ⟨w.heap.size + 1, 2, none⟩ (.int .u8 (gb xs (lead xs + 1)))).setCell ⟨w.heap.size + 1, 3, none⟩ (.int .u16 (gb xs (lead xs + 2)))).setCell ⟨w.heap.size + 1, 4, none⟩ (.int .i64 ((lead xs : Int) + 1 + 1 + 1)))) (w.heap.size + 1) 24 #[.int .i64 4, .int .u8 (gb xs (lead xs)), .int .u8 (gb xs (lead xs + 1)), .int .u16 (gb xs (lead xs + 2)), .int .i64 ((lead xs : Int) + 1 + 1 + 1), .int .i64 ss] from (((((r1h.out).set 0 (.int .i64 4)).set 1 (.int .u8 (gb xs (lead xs)))).set 2 (.int .u8 (gb xs (lead xs + 1)))).set 3 (.int .u16 (gb xs (lead xs + 2)))).set 4 (.int .i64 ((lead xs : Int) + 1 + 1 + 1)))
                have hF9 := Lib.hid (show Fb w (((((((wr).setCell ⟨w.heap.size + 1, 0, none⟩ (.int .i64 4)).setCell ⟨w.heap.size + 1, 1, none⟩ (.int .u8 (gb xs (lead xs)))).setCell ⟨w.heap.size + 1, 2, none⟩ (.int .u8 (gb xs (lead xs + 1)))).setCell ⟨w.heap.size + 1, 3, none⟩ (.int .u16 (gb xs (lead xs + 2)))).setCell ⟨w.heap.size + 1, 4, none⟩ (.int .i64 ((lead xs : Int) + 1 + 1 + 1)))) from ⟨((((((hFh.out).set 0 (.int .i64 4)).set 1 (.int .u8 (gb xs (lead xs)))).set 2 (.int .u8 (gb xs (lead xs + 1)))).set 3 (.int .u16 (gb xs (lead xs + 2)))).set 4 (.int .i64 ((lead xs : Int) + 1 + 1 + 1))).row, ((((((hFh.out).set 0 (.int .i64 4)).set 1 (.int .u8 (gb xs (lead xs)))).set 2 (.int .u8 (gb xs (lead xs + 1)))).set 3 (.int .u16 (gb xs (lead xs + 2)))).set 4 (.int .i64 ((lead xs : Int) + 1 + 1 + 1))).bel⟩)
                go_upto_region 34 with (fail)
                generalize hWX : ((((((wr).setCell ⟨w.heap.size + 1, 0, none⟩ (.int .i64 4)).setCell ⟨w.heap.size + 1, 1, none⟩ (.int .u8 (gb xs (lead xs)))).setCell ⟨w.heap.size + 1, 2, none⟩ (.int .u8 (gb xs (lead xs + 1)))).setCell ⟨w.heap.size + 1, 3, none⟩ (.int .u16 (gb xs (lead xs + 2)))).setCell ⟨w.heap.size + 1, 4, none⟩ (.int .i64 ((lead xs : Int) + 1 + 1 + 1))) = W9 at *
                clear hWX c0 c1 c2 c3 c4 c5 f d0 d1 d2 d3 d4 d5 g hbel
                obtain ⟨⟨c0, c1, c2, c3, c4, c5⟩, f⟩ := row6 r9.out
                obtain ⟨⟨d0, d1, d2, d3, d4, d5⟩, g⟩ := row6 hF9.out.row
                have hbel := hF9.out.bel
                clear r9 hF9
                go_wp2
                all_goals
                  rename_i hgt
                  first
                  | (have hno := hdone.out.2 (by rw [fin0.out.2]; omega)
                     refine bodyPost_ret (v := .tuple #[opV 0 0 0 0 0 0, .bool false]) (by simp [results, Tryd.f30, go_sem, c0, c1, c2, c3, c4, c5, d0, d1, d2, d3, d4, d5]) rfl ?_
                     rw [hno.1, hno.2]
                     exact ⟨rfl, (by repeat (first | with_reducible exact hbel | with_reducible refine Below.drew ?_ | with_reducible refine Below.setCell ?_ (by first | exact Nat.le_refl _ | (show w.heap.size ≤ w.heap.size + 1; omega)) _))⟩)
                  | (have hyes := hdone.out.1 (by rw [fin0.out.2]; omega)
                     refine bodyPost_ret (v := .tuple #[opV 4 (gb xs (lead xs)) (gb xs (lead xs + 1)) (gb xs (lead xs + 2)) ((lead xs + 2 : Nat) + 1) (ss), .bool true]) (by simp [results, Tryd.f30, go_sem, c0, c1, c2, c3, c4, c5, d0, d1, d2, d3, d4, d5]; (try omega)) rfl ?_
                     rw [hyes.1, hyes.2]
                     rw [hval.out]
                     exact ⟨rfl, (by repeat (first | with_reducible exact hbel | with_reducible refine Below.drew ?_ | with_reducible refine Below.setCell ?_ (by first | exact Nat.le_refl _ | (show w.heap.size ≤ w.heap.size + 1; omega)) _))⟩)
              · have hsz := Lib.hid (show ∀ W, Calls Tryd.prog 38 #[.int .i64 4, .int .u8 (gb xs (lead xs))] W fun e w' => e = .returned (.int .i64 2) ∧ W = w' from fun W => by have hh := rsize_any 4 (gb xs (lead xs)) (hbyte.out (lead xs)) W; rw [hn] at hh; exact hh)
                rw [hn, show immM (gb xs) (lead xs + 2) 2 = gb xs (lead xs + 2) + 256 * gb xs (lead xs + 2 + 1) from by unfold immM; rw [if_neg (by decide), if_neg (by decide)]; omega] at fin0
                have hval := Lib.hid (opB_of (opOf xs) (lenOf xs) fin0.out.1 (lenOf_eq xs) ((lead xs + 2 : Nat) + 2) (by rw [fin0.out.2]; first | rfl | omega))
                clear hn
                go_wp2_with fail
                refine (hsz.out _).mono ?_
                rintro e w' ⟨rfl, rfl⟩
                have bR := hbyte.out (lead xs + 2)
                have bR0 := bR.1
                have bR1 := bR.2
                have bS := hbyte.out (lead xs + 2 + 1)
                have bS0 := bS.1
                have bS1 := bS.2
                go_wp2_with fail
                refine (hat.out (lead xs + 2) _ (by first | rfl | omega) (by omega) _ (by repeat (first | with_reducible exact hbel | with_reducible refine Below.setCell ?_ (by show w.heap.size ≤ w.heap.size + 1; omega) _))).mono ?_
                rintro e w' ⟨rfl, rfl⟩
                have r4 := Lib.hid (show Row (((((wr).setCell ⟨w.heap.size + 1, 0, none⟩ (.int .i64 4)).setCell ⟨w.heap.size + 1, 1, none⟩ (.int .u8 (gb xs (lead xs)))).setCell ⟨w.heap.size + 1, 2, none⟩ (.int .u8 (gb xs (lead xs + 1)))).setCell ⟨w.heap.size + 1, 3, none⟩ (.int .u16 (gb xs (lead xs + 2)))) (w.heap.size + 1) 24 #[.int .i64 4, .int .u8 (gb xs (lead xs)), .int .u8 (gb xs (lead xs + 1)), .int .u16 (gb xs (lead xs + 2)), .int .i64 0, .int .i64 ss] from ((((r1h.out).set 0 (.int .i64 4)).set 1 (.int .u8 (gb xs (lead xs)))).set 2 (.int .u8 (gb xs (lead xs + 1)))).set 3 (.int .u16 (gb xs (lead xs + 2))))
                have hF4 := Lib.hid (((((hFh.out).set 0 (.int .i64 4)).set 1 (.int .u8 (gb xs (lead xs)))).set 2 (.int .u8 (gb xs (lead xs + 1)))).set 3 (.int .u16 (gb xs (lead xs + 2))))
                go_upto_region 32 with (fail)
                generalize hWX : (((((wr).setCell ⟨w.heap.size + 1, 0, none⟩ (.int .i64 4)).setCell ⟨w.heap.size + 1, 1, none⟩ (.int .u8 (gb xs (lead xs)))).setCell ⟨w.heap.size + 1, 2, none⟩ (.int .u8 (gb xs (lead xs + 1)))).setCell ⟨w.heap.size + 1, 3, none⟩ (.int .u16 (gb xs (lead xs + 2)))) = W4 at *
                clear hWX c0 c1 c2 c3 c4 c5 f d0 d1 d2 d3 d4 d5 g hbel hFh r1h
                obtain ⟨⟨c0, c1, c2, c3, c4, c5⟩, f⟩ := row6 r4.out
                obtain ⟨⟨d0, d1, d2, d3, d4, d5⟩, g⟩ := row6 hF4.out.row
                have hbel := hF4.out.bel
                have bdr := hbel.drew
                go_still_tail 10, (by kernel_rfl)
                still_call ((hat.out ((lead xs + 2) + 1) _ (by first | rfl | omega | (rw [IntKind.wrap_i64]; omega)) (by omega) W4.drew bdr).mono fun e w' h => ⟨h.1, h.2.symm⟩)
                repeat still_step
                refine wpStill_nil ?_
                change wpList _ _ _ _ _ W4.drew
                have r9 := Lib.hid (show Row ((((W4).setCell ⟨w.heap.size + 1, 3, none⟩ (.int .u16 (gb xs (lead xs + 2) + 256 * gb xs (lead xs + 2 + 1)))).setCell ⟨w.heap.size + 1, 4, none⟩ (.int .i64 ((lead xs : Int) + 1 + 1 + 2))).drew) (w.heap.size + 1) 24 #[.int .i64 4, .int .u8 (gb xs (lead xs)), .int .u8 (gb xs (lead xs + 1)), .int .u16 (gb xs (lead xs + 2) + 256 * gb xs (lead xs + 2 + 1)), .int .i64 ((lead xs : Int) + 1 + 1 + 2), .int .i64 ss] from ((r4.out).set 3 (.int .u16 (gb xs (lead xs + 2) + 256 * gb xs (lead xs + 2 + 1)))).set 4 (.int .i64 ((lead xs : Int) + 1 + 1 + 2)))
                have hF9 := Lib.hid (show Fb w ((((W4).setCell ⟨w.heap.size + 1, 3, none⟩ (.int .u16 (gb xs (lead xs + 2) + 256 * gb xs (lead xs + 2 + 1)))).setCell ⟨w.heap.size + 1, 4, none⟩ (.int .i64 ((lead xs : Int) + 1 + 1 + 2))).drew) from ⟨(((hF4.out).set 3 (.int .u16 (gb xs (lead xs + 2) + 256 * gb xs (lead xs + 2 + 1)))).set 4 (.int .i64 ((lead xs : Int) + 1 + 1 + 2))).row, (((hF4.out).set 3 (.int .u16 (gb xs (lead xs + 2) + 256 * gb xs (lead xs + 2 + 1)))).set 4 (.int .i64 ((lead xs : Int) + 1 + 1 + 2))).bel.drew⟩)
                go_upto_region 34 with (fail)
                generalize hWX : (((W4).setCell ⟨w.heap.size + 1, 3, none⟩ (.int .u16 (gb xs (lead xs + 2) + 256 * gb xs (lead xs + 2 + 1)))).setCell ⟨w.heap.size + 1, 4, none⟩ (.int .i64 ((lead xs : Int) + 1 + 1 + 2))).drew = W9 at *
                clear hWX c0 c1 c2 c3 c4 c5 f d0 d1 d2 d3 d4 d5 g hbel
                obtain ⟨⟨c0, c1, c2, c3, c4, c5⟩, f⟩ := row6 r9.out
                obtain ⟨⟨d0, d1, d2, d3, d4, d5⟩, g⟩ := row6 hF9.out.row
                have hbel := hF9.out.bel
                clear r9 hF9
                go_wp2
                all_goals
                  rename_i hgt
                  first
                  | (have hno := hdone.out.2 (by rw [fin0.out.2]; omega)
                     refine bodyPost_ret (v := .tuple #[opV 0 0 0 0 0 0, .bool false]) (by simp [results, Tryd.f30, go_sem, c0, c1, c2, c3, c4, c5, d0, d1, d2, d3, d4, d5]) rfl ?_
                     rw [hno.1, hno.2]
                     exact ⟨rfl, (by repeat (first | with_reducible exact hbel | with_reducible refine Below.drew ?_ | with_reducible refine Below.setCell ?_ (by first | exact Nat.le_refl _ | (show w.heap.size ≤ w.heap.size + 1; omega)) _))⟩)
                  | (have hyes := hdone.out.1 (by rw [fin0.out.2]; omega)
                     refine bodyPost_ret (v := .tuple #[opV 4 (gb xs (lead xs)) (gb xs (lead xs + 1)) (gb xs (lead xs + 2) + 256 * gb xs (lead xs + 2 + 1)) ((lead xs + 2 : Nat) + 2) (ss), .bool true]) (by simp [results, Tryd.f30, go_sem, c0, c1, c2, c3, c4, c5, d0, d1, d2, d3, d4, d5]; (try omega)) rfl ?_
                     rw [hyes.1, hyes.2]
                     rw [hval.out]
                     exact ⟨rfl, (by repeat (first | with_reducible exact hbel | with_reducible refine Below.drew ?_ | with_reducible refine Below.setCell ?_ (by first | exact Nat.le_refl _ | (show w.heap.size ≤ w.heap.size + 1; omega)) _))⟩)
end Go.Proofs.YtlmeekaemhghgaaDoor
