/- Contracts and facts that the claim's proof wants (several texts in one). -/
import Derived.Deep.DeepCutAuto
import Derived.StillTailTactics
import Derived.Lib.LaidTab
import Derived.FnData
import Derived.Below
import Derived.Deep.RegionHeld3
import Derived.Test.YtibmpaeaicpbcaaGreatDoorNtG1
import Derived.Test.YtibmpaeaicpbcaaGreatDoorNtG3
import Derived.Test.YtibmpaeaicpbcaaGreatDoorNtG4
import Derived.Test.YtibmpaeaicpbcaaGreatDoorNtG5
namespace Go.Proofs.YtibmpaeaicpbcaaGreatDoor
open Go.RowKit
set_option linter.unusedVariables false
set_option linter.unusedSimpArgs false
set_option maxRecDepth 20000
set_option maxHeartbeats 1000000 in
theorem rat_any (ad : Option Addr) (cap : Nat) (xs : List Int) (hl : xs.length ≤ 140737488355328) (B : Nat) (k : Nat) (hk : k ≤ 281474976710656) (w : World) (h : BytesIn w B ad xs) :
    Calls Tryz.prog 33 #[.slice ad xs.length cap, .int .i64 (k : Int)] w fun e w' => e = .returned (.int .u8 (gb xs k)) ∧ w = w' := by
  rcases Nat.lt_or_ge k xs.length with hlt | hge
  · obtain ⟨p, rfl, hpB, hcell⟩ := h.at_ hlt
    clear h
    go_enter Tryz.func33, Tryz.ntmps33
    go_wp2
    go_ret
    exact ⟨ret_int (by unfold gb; rw [List.getD_eq_getElem?_getD, List.getElem?_eq_getElem hlt]; rfl), rfl⟩
  · have HG := Lib.hid (show gb xs k = 0 by unfold gb; rw [List.getD_eq_getElem?_getD, List.getElem?_eq_none hge]; rfl)
    clear h
    go_enter Tryz.func33, Tryz.ntmps33
    go_wp2
    go_ret
    exact ⟨ret_int HG.out.symm, rfl⟩
set_option maxHeartbeats 1000000 in
theorem rplane_0 (c : Int) (w : World) :
    Calls Tryz.prog 34 #[.int .u8 0, .int .u8 c] w fun e w' => e = .returned (.int .i64 (hPlane 0 c)) ∧ w = w' := by
  have h : hPlane 0 c = if c = 203 then withinM 0 else if c = 237 then 2 else 0 := rfl
  cases e2 : (c == 203) <;> cases e3 : (c == 237)
  all_goals
    have H := Lib.hid h
    clear h
    go_enter Tryz.func34, Tryz.ntmps34
    go_wp2
    go_ret
    refine ⟨ret_int ?_, rfl⟩
    rw [H.out]
    simp only [beq_iff_eq, beq_eq_false_iff_ne] at e2 e3
    first
    | (rw [if_pos (by assumption)]; rfl)
    | (rw [if_neg (by assumption), if_pos (by assumption)])
    | (rw [if_neg (by assumption), if_neg (by assumption)])
    | (exfalso; omega)
set_option maxHeartbeats 1000000 in
theorem rplane_221 (c : Int) (w : World) :
    Calls Tryz.prog 34 #[.int .u8 221, .int .u8 c] w fun e w' => e = .returned (.int .i64 (hPlane 3 c)) ∧ w = w' := by
  have h : hPlane 3 c = if c = 203 then withinM 3 else if c = 237 then 2 else 3 := rfl
  cases e2 : (c == 203) <;> cases e3 : (c == 237)
  all_goals
    have H := Lib.hid h
    clear h
    go_enter Tryz.func34, Tryz.ntmps34
    go_wp2
    go_ret
    refine ⟨ret_int ?_, rfl⟩
    rw [H.out]
    simp only [beq_iff_eq, beq_eq_false_iff_ne] at e2 e3
    first
    | (rw [if_pos (by assumption)]; rfl)
    | (rw [if_neg (by assumption), if_pos (by assumption)])
    | (rw [if_neg (by assumption), if_neg (by assumption)])
    | (exfalso; omega)
set_option maxHeartbeats 1000000 in
theorem rplane_253 (c : Int) (w : World) :
    Calls Tryz.prog 34 #[.int .u8 253, .int .u8 c] w fun e w' => e = .returned (.int .i64 (hPlane 4 c)) ∧ w = w' := by
  have h : hPlane 4 c = if c = 203 then withinM 4 else if c = 237 then 2 else 4 := rfl
  cases e2 : (c == 203) <;> cases e3 : (c == 237)
  all_goals
    have H := Lib.hid h
    clear h
    go_enter Tryz.func34, Tryz.ntmps34
    go_wp2
    go_ret
    refine ⟨ret_int ?_, rfl⟩
    rw [H.out]
    simp only [beq_iff_eq, beq_eq_false_iff_ne] at e2 e3
    first
    | (rw [if_pos (by assumption)]; rfl)
    | (rw [if_neg (by assumption), if_pos (by assumption)])
    | (rw [if_neg (by assumption), if_neg (by assumption)])
    | (exfalso; omega)
theorem opB_of (o : OpM) (L : Nat) {q code d imm sk : Int} (h1 : opV o.plane o.code o.disp o.imm 0 o.skip = opV q code d imm 0 sk) (h3 : o.len = (L : Int)) (l : Int) (hl : (L : Int) = l) : opB o true = .tuple #[opV q code d imm l sk, .bool true] := by
  obtain ⟨pl, co, di, im, le, sk'⟩ := o
  simp only [Value.agg.injEq, Array.mk.injEq, List.cons.injEq, Value.int.injEq, true_and, and_true] at h1
  obtain ⟨e1, e2, e3, e4, e5⟩ := h1
  simp only at h3
  subst hl
  subst e1 e2 e3 e4 e5 h3
  rfl
theorem sizeM_two (c : Int) : sizeM 2 c = 0 ∨ sizeM 2 c = 2 := by
  show sizeE c = 0 ∨ sizeE c = 2
  unfold sizeE
  split
  · exact .inr rfl
  · exact .inl rfl
structure Fb (w : World) (W : World) : Prop where
  row : Row W w.heap.size 39 zeroC
  bel : Below w.heap.size w W
theorem Fb.set {w W : World} (h : Fb w W) (i : Nat) (u : Value) : Fb w (W.setCell ⟨w.heap.size + 1, i, none⟩ u) :=
  { row := h.row.far (p := ⟨w.heap.size + 1, i, none⟩) (by show w.heap.size ≠ w.heap.size + 1; omega) u
    bel := h.bel.setCell (p := ⟨w.heap.size + 1, i, none⟩) (by show w.heap.size ≤ w.heap.size + 1; omega) u }
def preB (xs : List Int) (k : Nat) : Int := if k = 0 then 0 else gb xs (k - 1)
def AtRef (w : World) (xs : List Int) (ti tp : Value) (wr : World) : Prop :=
  ∃ k : Nat, k ≤ lead xs ∧ ti = .int .i64 (k : Int) ∧ tp = .int .u8 (preB xs k) ∧ Fb w wr ∧
    Row wr (w.heap.size + 1) 39 #[.int .i64 0, .int .u8 0, .int .u8 0, .int .u16 0, .int .i64 0, .int .i64 ((k - 1 : Nat) : Int)]
set_option maxHeartbeats 20000000 in
theorem rnext_any (ad : Option Addr) (cap : Nat) (xs : List Int) (hl : xs.length ≤ 140737488355328) (hx : Bytes8 xs) (w : World) (h : BytesIn w w.heap.size ad xs) :
    Calls Tryz.prog 18 #[.slice ad xs.length cap] w fun e w' => e = .returned (opB (nextO xs) (okM xs)) ∧ Below w.heap.size w w' := by
  have hF := Lib.hid (show Fb w ((w.alloc (.cells zeroC 39)).alloc (.cells zeroC 39)) from ⟨(Row.new w _ _).alloc _, (by repeat (first | exact Below.refl _ _ | assumption | refine bstep ?_ (by assumption) | refine Below.drew ?_ | refine Below.alloc ?_ (by first | (simp; done) | (simp; omega) | omega) _ | refine Below.setCell ?_ (by first | (simp; done) | (simp; omega) | omega) _))⟩)
  have r1 := Lib.hid (Row.new (w.alloc (.cells zeroC 39)) 39 zeroC)
  rw [World.size_alloc] at r1
  have hat := Lib.hid (show ∀ (k : Nat) (i : Int), i = (k : Int) → k ≤ 281474976710656 → ∀ W : World, Below w.heap.size w W → Calls Tryz.prog 33 #[.slice ad xs.length cap, .int .i64 i] W fun e w' => e = .returned (.int .u8 (gb xs k)) ∧ W = w' from fun k i hi hk W hW => hi ▸ rat_any ad cap xs hl w.heap.size k hk W (h.below hW))
  have head := Lib.hid (show AtRef w xs (.int .i64 0) (.int .u8 0) ((w.alloc (.cells zeroC 39)).alloc (.cells zeroC 39)) from ⟨0, Nat.zero_le _, rfl, rfl, hF.out, r1.out⟩)
  have hB := Lib.hid h
  clear h hF r1
  have hll := lead_le xs
  go_enter Tryz.func18, Tryz.ntmps18
  go_wp2
  go_loopw [4, 5] (fun ti tp wr => AtRef w xs ti tp wr) (fun ti _ _ => lead xs + 1 - (intOf ti).toNat)
  case atStart => exact head.out
  case round =>
    obtain ⟨k, hk, rfl, rfl, hF, r1⟩ := hrel
    clear head
    obtain ⟨⟨c0, c1, c2, c3, c4, c5⟩, f⟩ := row6 r1
    by_cases hlt : k < lead xs
    · have hp := lead_pre xs k hlt
      have hq : Hid (preB xs (k + 1) = gb xs k) := by unfold preB; rw [if_neg (by omega)]; exact rfl
      have hx1 : ((gb xs k == 221) = true ∧ (gb xs k == 253) = false) ∨ ((gb xs k == 221) = false ∧ (gb xs k == 253) = true) := by
        unfold isPre at hp
        simp only [Bool.or_eq_true, beq_iff_eq] at hp
        simp only [beq_iff_eq, beq_eq_false_iff_ne]
        omega
      obtain ⟨p, rfl, hpb, hcell0⟩ := hB.out.at_ (k := k) (by omega)
      have hcell : wr.cell? (p.add k) = some (.int .u8 (gb xs k)) := (hF.bel.cell (by rw [add_block]; exact hpb)).trans hcell0
      have hcell0 := Lib.hid hcell0
      clear hp
      cases k with
      | zero =>
        rw [show p.add 0 = p by simp [Addr.add]] at hcell
        have hFn := hF
        have rn := r1
        have hat0 := Lib.hid (hat.out 0 0 rfl (by omega) wr hF.bel)
        clear hF r1
        rcases hx1 with ⟨h1, h2⟩ | ⟨h1, h2⟩
        all_goals
          go_wp2_with (first
            | (go_at_call 33; refine (hat0.out).mono ?_; rintro e w' ⟨rfl, rfl⟩))
          go_roundw
          case rel => exact ⟨0 + 1, by omega, by go_num, by rw [hq.out], hFn, rn⟩
          case measure => simp [intOf]; (try omega)
      | succ j =>
        rw [show ((j + 1 - 1 : Nat) : Int) = (j : Int) from rfl] at c5 r1
        have hq' : Hid (((((j + 1) + 1 - 1 : Nat)) : Int) = (j : Int) + 1) := by show ((j + 1 : Nat) : Int) = _; omega
        have hb2 := (hF.set 5 (.int .i64 ((j : Int) + 1))).bel
        have hcell2 : (wr.setCell ⟨w.heap.size + 1, 5, none⟩ (.int .i64 ((j : Int) + 1))).cell? (p.add (j + 1)) = some (.int .u8 (gb xs (j + 1))) := (hb2.cell (by rw [add_block]; exact hpb)).trans hcell0.out
        rw [show p.add (j + 1) = ⟨p.block, p.off + (j + 1), none⟩ by simp [Addr.add]] at hcell2
        clear hb2 hcell
        have hFn := (hF.set 5 (.int .i64 ((j : Int) + 1)))
        have rn := r1.set 5 (.int .i64 ((j : Int) + 1))
        have hat0 := Lib.hid (hat.out (j + 1) ((j : Int) + 1) (by omega) (by omega) wr hF.bel)
        clear hF r1
        rcases hx1 with ⟨h1, h2⟩ | ⟨h1, h2⟩
        all_goals
          go_wp2_with (first
            | (go_at_call 33; refine (hat0.out).mono ?_; rintro e w' ⟨rfl, rfl⟩))
          go_roundw
          case rel => exact ⟨j + 1 + 1, by omega, by go_num, by rw [hq.out], hFn, rn⟩
          case measure => simp [intOf]; (try omega)
    · obtain rfl : k = lead xs := by omega
      have he := lead_end xs
      have n1 : (gb xs (lead xs) == 221) = false := by unfold isPre at he; simp only [Bool.or_eq_false_iff] at he; exact he.1
      have n2 : (gb xs (lead xs) == 253) = false := by unfold isPre at he; simp only [Bool.or_eq_false_iff] at he; exact he.2
      have hk := Lib.hid (opOf_parts xs (lead xs) rfl)
      have hbig : (((lead xs - 1 : Nat)) : Int) ≤ 140737488355328 := by omega
      have hdone := Lib.hid (show (lenOf xs ≤ xs.length → nextO xs = opOf xs ∧ okM xs = true) ∧ (xs.length < lenOf xs → nextO xs = zeroOp ∧ okM xs = false) from
        ⟨fun h => ⟨(okM_yes (decide_eq_true h)).2, decide_eq_true h⟩, fun h => ⟨(okM_no (decide_eq_false (Nat.not_le.2 h))).2, decide_eq_false (Nat.not_le.2 h)⟩⟩)
      have hbyte := Lib.hid (fun i => gb_byte hx i)
      have h034 : (preP xs (lead xs) = 0 ∧ preB xs (lead xs) = 0 ∧ decide (0 < lead xs) = false) ∨ (preP xs (lead xs) = 3 ∧ preB xs (lead xs) = 221 ∧ 0 < lead xs) ∨ (preP xs (lead xs) = 4 ∧ preB xs (lead xs) = 253 ∧ 0 < lead xs) := by
        rcases Nat.eq_zero_or_pos (lead xs) with h0 | h0
        · left
          unfold preP preB
          rw [if_pos h0, if_pos h0]
          exact ⟨rfl, rfl, decide_eq_false (by omega)⟩
        · right
          have := lead_pre xs (lead xs - 1) (by omega)
          unfold isPre at this
          simp only [Bool.or_eq_true, beq_iff_eq] at this
          have e1 : preP xs (lead xs) = if gb xs (lead xs - 1) = 221 then 3 else 4 := by unfold preP; rw [if_neg (show ¬ lead xs = 0 by omega)]
          have e2 : preB xs (lead xs) = gb xs (lead xs - 1) := by unfold preB; rw [if_neg (show ¬ lead xs = 0 by omega)]
          rw [e1, e2]
          rcases this with h | h
          · left
            rw [if_pos h]
            exact ⟨rfl, h, h0⟩
          · right
            rw [if_neg (show ¬ gb xs (lead xs - 1) = 221 by omega)]
            exact ⟨rfl, h, h0⟩
      clear he
      generalize hss : ((lead xs - 1 : Nat) : Int) = ss at *
      have hss0 : 0 ≤ ss := by omega
      have hss1 := Lib.hid hss
      clear hss hlt
      obtain ⟨⟨d0, d1, d2, d3, d4, d5⟩, g⟩ := row6 hF.row
      have hbel := hF.bel
      have hFh := Lib.hid hF
      have r1h := Lib.hid r1
      clear hF r1
      rcases h034 with ⟨h034, hpb, hi0⟩ | ⟨h034, hpb, hi0⟩ | ⟨h034, hpb, hi0⟩
      · go_wp2_with fail
        refine (hat.out (lead xs) _ (by first | rfl | omega) (by omega) _ hbel).mono ?_
        rintro e w' ⟨rfl, rfl⟩
        go_wp2_with fail
        refine (hat.out (lead xs) _ (by first | rfl | omega) (by omega) _ hbel).mono ?_
        rintro e w' ⟨rfl, rfl⟩
        by_cases e203 : gb xs (lead xs) = 203
        · have fin0 := Lib.hid (hk.out 0 ss (gb xs (lead xs)) 1 (gb xs (lead xs + 1)) (0) (ss) (lead xs + 2) h034 rfl rfl (by rw [e203]; rfl) (by unfold hCode; rw [e203]; rfl) (by unfold hDisp; rw [e203]; rfl) (by rw [e203]; rfl) (by unfold hReads; rw [e203]; rfl))
          have hpl := Lib.hid (show ∀ W, Calls Tryz.prog 34 #[.int .u8 0, .int .u8 (gb xs (lead xs))] W fun e w' => e = .returned (.int .i64 1) ∧ W = w' from fun W => by have hh := rplane_0 (gb xs (lead xs)) W; rw [show hPlane 0 (gb xs (lead xs)) = 1 from (by rw [e203]; rfl)] at hh; exact hh)
          clear e203
          go_wp2_with fail
          refine (hat.out (lead xs) _ (by first | rfl | omega) (by omega) _ (by repeat (first | with_reducible exact hbel | with_reducible refine Below.setCell ?_ (by show w.heap.size ≤ w.heap.size + 1; omega) _))).mono ?_
          rintro e w' ⟨rfl, rfl⟩
          go_wp2_with fail
          refine (hpl.out _).mono ?_
          rintro e w' ⟨rfl, rfl⟩
          go_wp2_with fail
          refine (hat.out (lead xs + 1) _ (by first | rfl | omega) (by omega) _ (by repeat (first | with_reducible exact hbel | with_reducible refine Below.setCell ?_ (by show w.heap.size ≤ w.heap.size + 1; omega) _))).mono ?_
          rintro e w' ⟨rfl, rfl⟩
          have hn : sizeM 1 (gb xs (lead xs + 1)) = 0 := rfl
          have hsz := Lib.hid (show ∀ W, Calls Tryz.prog 36 #[.int .i64 1, .int .u8 (gb xs (lead xs + 1))] W fun e w' => e = .returned (.int .i64 0) ∧ W = w' from fun W => by have hh := rsize_any 1 (gb xs (lead xs + 1)) (hbyte.out (lead xs + 1)) W; rw [hn] at hh; exact hh)
          rw [hn, show immM (gb xs) (lead xs + 2) 0 = 0 from rfl] at fin0
          have hval := Lib.hid (opB_of (opOf xs) (lenOf xs) fin0.out.1 (lenOf_eq xs) ((lead xs + 2 : Nat) + 0) (by rw [fin0.out.2]; first | rfl | omega))
          clear hn
          go_wp2_with fail
          refine (hsz.out _).mono ?_
          rintro e w' ⟨rfl, rfl⟩
          have r9 := Lib.hid (show Row (((((wr).setCell ⟨w.heap.size + 1, 0, none⟩ (.int .i64 1)).setCell ⟨w.heap.size + 1, 1, none⟩ (.int .u8 (gb xs (lead xs + 1)))).setCell ⟨w.heap.size + 1, 4, none⟩ (.int .i64 ((lead xs : Int) + 2)))) (w.heap.size + 1) 39 #[.int .i64 1, .int .u8 (gb xs (lead xs + 1)), .int .u8 0, .int .u16 0, .int .i64 ((lead xs : Int) + 2), .int .i64 ss] from (((r1h.out).set 0 (.int .i64 1)).set 1 (.int .u8 (gb xs (lead xs + 1)))).set 4 (.int .i64 ((lead xs : Int) + 2)))
          have hF9 := Lib.hid (show Fb w (((((wr).setCell ⟨w.heap.size + 1, 0, none⟩ (.int .i64 1)).setCell ⟨w.heap.size + 1, 1, none⟩ (.int .u8 (gb xs (lead xs + 1)))).setCell ⟨w.heap.size + 1, 4, none⟩ (.int .i64 ((lead xs : Int) + 2)))) from ⟨((((hFh.out).set 0 (.int .i64 1)).set 1 (.int .u8 (gb xs (lead xs + 1)))).set 4 (.int .i64 ((lead xs : Int) + 2))).row, ((((hFh.out).set 0 (.int .i64 1)).set 1 (.int .u8 (gb xs (lead xs + 1)))).set 4 (.int .i64 ((lead xs : Int) + 2))).bel⟩)
          go_upto_region 34 with (fail)
          generalize hWX : ((((wr).setCell ⟨w.heap.size + 1, 0, none⟩ (.int .i64 1)).setCell ⟨w.heap.size + 1, 1, none⟩ (.int .u8 (gb xs (lead xs + 1)))).setCell ⟨w.heap.size + 1, 4, none⟩ (.int .i64 ((lead xs : Int) + 2))) = W9 at *
          clear hWX c0 c1 c2 c3 c4 c5 f d0 d1 d2 d3 d4 d5 g hbel
          obtain ⟨⟨c0, c1, c2, c3, c4, c5⟩, f⟩ := row6 r9.out
          obtain ⟨⟨d0, d1, d2, d3, d4, d5⟩, g⟩ := row6 hF9.out.row
          have hbel := hF9.out.bel
          clear r9 hF9
          go_wp2
          all_goals
            rename_i hgt
            first
            | (have hno := hdone.out.2 (by rw [fin0.out.2]; omega)
               refine bodyPost_ret (v := .tuple #[opV 0 0 0 0 0 0, .bool false]) (by simp [results, Tryz.f18, go_sem, c0, c1, c2, c3, c4, c5, d0, d1, d2, d3, d4, d5]) rfl ?_
               rw [hno.1, hno.2]
               exact ⟨rfl, (by repeat (first | with_reducible exact hbel | with_reducible refine Below.drew ?_ | with_reducible refine Below.setCell ?_ (by first | exact Nat.le_refl _ | (show w.heap.size ≤ w.heap.size + 1; omega)) _))⟩)
            | (have hyes := hdone.out.1 (by rw [fin0.out.2]; omega)
               refine bodyPost_ret (v := .tuple #[opV 1 (gb xs (lead xs + 1)) (0) (0) ((lead xs + 2 : Nat) + 0) (ss), .bool true]) (by simp [results, Tryz.f18, go_sem, c0, c1, c2, c3, c4, c5, d0, d1, d2, d3, d4, d5]; (try omega)) rfl ?_
               rw [hyes.1, hyes.2]
               rw [hval.out]
               exact ⟨rfl, (by repeat (first | with_reducible exact hbel | with_reducible refine Below.drew ?_ | with_reducible refine Below.setCell ?_ (by first | exact Nat.le_refl _ | (show w.heap.size ≤ w.heap.size + 1; omega)) _))⟩)
        · by_cases e237 : gb xs (lead xs) = 237
          · have fin0 := Lib.hid (hk.out 0 ss (gb xs (lead xs)) 2 (gb xs (lead xs + 1)) (0) (ss) (lead xs + 2) h034 rfl rfl (by rw [e237]; rfl) (by unfold hCode; rw [e237]; rfl) (by unfold hDisp; rw [e237]; rfl) (by rw [e237]; rfl) (by unfold hReads; rw [e237]; rfl))
            have hpl := Lib.hid (show ∀ W, Calls Tryz.prog 34 #[.int .u8 0, .int .u8 (gb xs (lead xs))] W fun e w' => e = .returned (.int .i64 2) ∧ W = w' from fun W => by have hh := rplane_0 (gb xs (lead xs)) W; rw [show hPlane 0 (gb xs (lead xs)) = 2 from (by rw [e237]; rfl)] at hh; exact hh)
            clear e203 e237
            go_wp2_with fail
            refine (hat.out (lead xs) _ (by first | rfl | omega) (by omega) _ (by repeat (first | with_reducible exact hbel | with_reducible refine Below.setCell ?_ (by show w.heap.size ≤ w.heap.size + 1; omega) _))).mono ?_
            rintro e w' ⟨rfl, rfl⟩
            go_wp2_with fail
            refine (hpl.out _).mono ?_
            rintro e w' ⟨rfl, rfl⟩
            go_wp2_with fail
            refine (hat.out (lead xs + 1) _ (by first | rfl | omega) (by omega) _ (by repeat (first | with_reducible exact hbel | with_reducible refine Below.setCell ?_ (by show w.heap.size ≤ w.heap.size + 1; omega) _))).mono ?_
            rintro e w' ⟨rfl, rfl⟩
            rcases sizeM_two (gb xs (lead xs + 1)) with hn | hn
            · have hsz := Lib.hid (show ∀ W, Calls Tryz.prog 36 #[.int .i64 2, .int .u8 (gb xs (lead xs + 1))] W fun e w' => e = .returned (.int .i64 0) ∧ W = w' from fun W => by have hh := rsize_any 2 (gb xs (lead xs + 1)) (hbyte.out (lead xs + 1)) W; rw [hn] at hh; exact hh)
              rw [hn, show immM (gb xs) (lead xs + 2) 0 = 0 from rfl] at fin0
              have hval := Lib.hid (opB_of (opOf xs) (lenOf xs) fin0.out.1 (lenOf_eq xs) ((lead xs + 2 : Nat) + 0) (by rw [fin0.out.2]; first | rfl | omega))
              clear hn
              go_wp2_with fail
              refine (hsz.out _).mono ?_
              rintro e w' ⟨rfl, rfl⟩
              have r9 := Lib.hid (show Row (((((wr).setCell ⟨w.heap.size + 1, 0, none⟩ (.int .i64 2)).setCell ⟨w.heap.size + 1, 1, none⟩ (.int .u8 (gb xs (lead xs + 1)))).setCell ⟨w.heap.size + 1, 4, none⟩ (.int .i64 ((lead xs : Int) + 2)))) (w.heap.size + 1) 39 #[.int .i64 2, .int .u8 (gb xs (lead xs + 1)), .int .u8 0, .int .u16 0, .int .i64 ((lead xs : Int) + 2), .int .i64 ss] from (((r1h.out).set 0 (.int .i64 2)).set 1 (.int .u8 (gb xs (lead xs + 1)))).set 4 (.int .i64 ((lead xs : Int) + 2)))
              have hF9 := Lib.hid (show Fb w (((((wr).setCell ⟨w.heap.size + 1, 0, none⟩ (.int .i64 2)).setCell ⟨w.heap.size + 1, 1, none⟩ (.int .u8 (gb xs (lead xs + 1)))).setCell ⟨w.heap.size + 1, 4, none⟩ (.int .i64 ((lead xs : Int) + 2)))) from ⟨((((hFh.out).set 0 (.int .i64 2)).set 1 (.int .u8 (gb xs (lead xs + 1)))).set 4 (.int .i64 ((lead xs : Int) + 2))).row, ((((hFh.out).set 0 (.int .i64 2)).set 1 (.int .u8 (gb xs (lead xs + 1)))).set 4 (.int .i64 ((lead xs : Int) + 2))).bel⟩)
              go_upto_region 34 with (fail)
              generalize hWX : ((((wr).setCell ⟨w.heap.size + 1, 0, none⟩ (.int .i64 2)).setCell ⟨w.heap.size + 1, 1, none⟩ (.int .u8 (gb xs (lead xs + 1)))).setCell ⟨w.heap.size + 1, 4, none⟩ (.int .i64 ((lead xs : Int) + 2))) = W9 at *
              clear hWX c0 c1 c2 c3 c4 c5 f d0 d1 d2 d3 d4 d5 g hbel
              obtain ⟨⟨c0, c1, c2, c3, c4, c5⟩, f⟩ := row6 r9.out
              obtain ⟨⟨d0, d1, d2, d3, d4, d5⟩, g⟩ := row6 hF9.out.row
              have hbel := hF9.out.bel
              clear r9 hF9
              go_wp2
              all_goals
                rename_i hgt
                first
                | (have hno := hdone.out.2 (by rw [fin0.out.2]; omega)
                   refine bodyPost_ret (v := .tuple #[opV 0 0 0 0 0 0, .bool false]) (by simp [results, Tryz.f18, go_sem, c0, c1, c2, c3, c4, c5, d0, d1, d2, d3, d4, d5]) rfl ?_
                   rw [hno.1, hno.2]
                   exact ⟨rfl, (by repeat (first | with_reducible exact hbel | with_reducible refine Below.drew ?_ | with_reducible refine Below.setCell ?_ (by first | exact Nat.le_refl _ | (show w.heap.size ≤ w.heap.size + 1; omega)) _))⟩)
                | (have hyes := hdone.out.1 (by rw [fin0.out.2]; omega)
                   refine bodyPost_ret (v := .tuple #[opV 2 (gb xs (lead xs + 1)) (0) (0) ((lead xs + 2 : Nat) + 0) (ss), .bool true]) (by simp [results, Tryz.f18, go_sem, c0, c1, c2, c3, c4, c5, d0, d1, d2, d3, d4, d5]; (try omega)) rfl ?_
                   rw [hyes.1, hyes.2]
                   rw [hval.out]
                   exact ⟨rfl, (by repeat (first | with_reducible exact hbel | with_reducible refine Below.drew ?_ | with_reducible refine Below.setCell ?_ (by first | exact Nat.le_refl _ | (show w.heap.size ≤ w.heap.size + 1; omega)) _))⟩)
            · have hsz := Lib.hid (show ∀ W, Calls Tryz.prog 36 #[.int .i64 2, .int .u8 (gb xs (lead xs + 1))] W fun e w' => e = .returned (.int .i64 2) ∧ W = w' from fun W => by have hh := rsize_any 2 (gb xs (lead xs + 1)) (hbyte.out (lead xs + 1)) W; rw [hn] at hh; exact hh)
              rw [hn, show immM (gb xs) (lead xs + 2) 2 = gb xs (lead xs + 2) + 256 * gb xs (lead xs + 2 + 1) from by unfold immM; rw [if_neg (by decide), if_neg (by decide)]; omega] at fin0
              have hval := Lib.hid (opB_of (opOf xs) (lenOf xs) fin0.out.1 (lenOf_eq xs) ((lead xs + 2 : Nat) + 2) (by rw [fin0.out.2]; first | rfl | omega))
              clear hn
              go_wp2_with fail
              refine (hsz.out _).mono ?_
              rintro e w' ⟨rfl, rfl⟩
              have bR := hbyte.out (lead xs + 2)
              have bR0 := bR.1
              have bR1 := bR.2
              have bS := hbyte.out (lead xs + 2 + 1)
              have bS0 := bS.1
              have bS1 := bS.2
              go_wp2_with fail
              refine (hat.out (lead xs + 2) _ (by first | rfl | omega) (by omega) _ (by repeat (first | with_reducible exact hbel | with_reducible refine Below.setCell ?_ (by show w.heap.size ≤ w.heap.size + 1; omega) _))).mono ?_
              rintro e w' ⟨rfl, rfl⟩
              have r4 := Lib.hid (show Row ((((wr).setCell ⟨w.heap.size + 1, 0, none⟩ (.int .i64 2)).setCell ⟨w.heap.size + 1, 1, none⟩ (.int .u8 (gb xs (lead xs + 1)))).setCell ⟨w.heap.size + 1, 3, none⟩ (.int .u16 (gb xs (lead xs + 2)))) (w.heap.size + 1) 39 #[.int .i64 2, .int .u8 (gb xs (lead xs + 1)), .int .u8 0, .int .u16 (gb xs (lead xs + 2)), .int .i64 0, .int .i64 ss] from (((r1h.out).set 0 (.int .i64 2)).set 1 (.int .u8 (gb xs (lead xs + 1)))).set 3 (.int .u16 (gb xs (lead xs + 2))))
              have hF4 := Lib.hid ((((hFh.out).set 0 (.int .i64 2)).set 1 (.int .u8 (gb xs (lead xs + 1)))).set 3 (.int .u16 (gb xs (lead xs + 2))))
              go_upto_region 32 with (fail)
              generalize hWX : ((((wr).setCell ⟨w.heap.size + 1, 0, none⟩ (.int .i64 2)).setCell ⟨w.heap.size + 1, 1, none⟩ (.int .u8 (gb xs (lead xs + 1)))).setCell ⟨w.heap.size + 1, 3, none⟩ (.int .u16 (gb xs (lead xs + 2)))) = W4 at *
              clear hWX c0 c1 c2 c3 c4 c5 f d0 d1 d2 d3 d4 d5 g hbel hFh r1h
              obtain ⟨⟨c0, c1, c2, c3, c4, c5⟩, f⟩ := row6 r4.out
              obtain ⟨⟨d0, d1, d2, d3, d4, d5⟩, g⟩ := row6 hF4.out.row
              have hbel := hF4.out.bel
              have bdr := hbel.drew
              go_still_tail 10, (by kernel_rfl)
              still_call ((hat.out ((lead xs + 2) + 1) _ (by first | rfl | omega | (rw [IntKind.wrap_i64]; omega)) (by omega) W4.drew bdr).mono fun e w' h => ⟨h.1, h.2.symm⟩)
              repeat still_step
              refine wpStill_nil ?_
              change wpList _ _ _ _ _ W4.drew
              have r9 := Lib.hid (show Row ((((W4).setCell ⟨w.heap.size + 1, 3, none⟩ (.int .u16 (gb xs (lead xs + 2) + 256 * gb xs (lead xs + 2 + 1)))).setCell ⟨w.heap.size + 1, 4, none⟩ (.int .i64 ((lead xs : Int) + 2 + 2))).drew) (w.heap.size + 1) 39 #[.int .i64 2, .int .u8 (gb xs (lead xs + 1)), .int .u8 0, .int .u16 (gb xs (lead xs + 2) + 256 * gb xs (lead xs + 2 + 1)), .int .i64 ((lead xs : Int) + 2 + 2), .int .i64 ss] from ((r4.out).set 3 (.int .u16 (gb xs (lead xs + 2) + 256 * gb xs (lead xs + 2 + 1)))).set 4 (.int .i64 ((lead xs : Int) + 2 + 2)))
              have hF9 := Lib.hid (show Fb w ((((W4).setCell ⟨w.heap.size + 1, 3, none⟩ (.int .u16 (gb xs (lead xs + 2) + 256 * gb xs (lead xs + 2 + 1)))).setCell ⟨w.heap.size + 1, 4, none⟩ (.int .i64 ((lead xs : Int) + 2 + 2))).drew) from ⟨(((hF4.out).set 3 (.int .u16 (gb xs (lead xs + 2) + 256 * gb xs (lead xs + 2 + 1)))).set 4 (.int .i64 ((lead xs : Int) + 2 + 2))).row, (((hF4.out).set 3 (.int .u16 (gb xs (lead xs + 2) + 256 * gb xs (lead xs + 2 + 1)))).set 4 (.int .i64 ((lead xs : Int) + 2 + 2))).bel.drew⟩)
              go_upto_region 34 with (fail)
              generalize hWX : (((W4).setCell ⟨w.heap.size + 1, 3, none⟩ (.int .u16 (gb xs (lead xs + 2) + 256 * gb xs (lead xs + 2 + 1)))).setCell ⟨w.heap.size + 1, 4, none⟩ (.int .i64 ((lead xs : Int) + 2 + 2))).drew = W9 at *
              clear hWX c0 c1 c2 c3 c4 c5 f d0 d1 d2 d3 d4 d5 g hbel
              obtain ⟨⟨c0, c1, c2, c3, c4, c5⟩, f⟩ := row6 r9.out
              obtain ⟨⟨d0, d1, d2, d3, d4, d5⟩, g⟩ := row6 hF9.out.row
              have hbel := hF9.out.bel
              clear r9 hF9
              go_wp2
              all_goals
                rename_i hgt
                first
                | (have hno := hdone.out.2 (by rw [fin0.out.2]; omega)
                   refine bodyPost_ret (v := .tuple #[opV 0 0 0 0 0 0, .bool false]) (by simp [results, Tryz.f18, go_sem, c0, c1, c2, c3, c4, c5, d0, d1, d2, d3, d4, d5]) rfl ?_
                   rw [hno.1, hno.2]
                   exact ⟨rfl, (by repeat (first | with_reducible exact hbel | with_reducible refine Below.drew ?_ | with_reducible refine Below.setCell ?_ (by first | exact Nat.le_refl _ | (show w.heap.size ≤ w.heap.size + 1; omega)) _))⟩)
                | (have hyes := hdone.out.1 (by rw [fin0.out.2]; omega)
                   refine bodyPost_ret (v := .tuple #[opV 2 (gb xs (lead xs + 1)) (0) (gb xs (lead xs + 2) + 256 * gb xs (lead xs + 2 + 1)) ((lead xs + 2 : Nat) + 2) (ss), .bool true]) (by simp [results, Tryz.f18, go_sem, c0, c1, c2, c3, c4, c5, d0, d1, d2, d3, d4, d5]; (try omega)) rfl ?_
                   rw [hyes.1, hyes.2]
                   rw [hval.out]
                   exact ⟨rfl, (by repeat (first | with_reducible exact hbel | with_reducible refine Below.drew ?_ | with_reducible refine Below.setCell ?_ (by first | exact Nat.le_refl _ | (show w.heap.size ≤ w.heap.size + 1; omega)) _))⟩)
          · have hPl : hPlane 0 (gb xs (lead xs)) = 0 := by unfold hPlane; rw [if_neg e203, if_neg e237]
            have hN : nearM 0 (gb xs (lead xs)) = false := rfl
            have fin0 := Lib.hid (hk.out 0 ss (gb xs (lead xs)) 0 (gb xs (lead xs)) (0) (ss) (lead xs + 1) h034 rfl rfl hPl (by unfold hCode; rw [hPl, if_neg (by decide), if_neg (by omega)]) (by unfold hDisp; rw [hPl, if_neg (by decide), if_neg (by omega), hN]; rfl) (by unfold hSkip; rw [if_neg (by omega)]) (by unfold hReads; rw [hPl, if_neg (by decide), if_neg (by omega), hN]; rfl))
            have hpl := Lib.hid (show ∀ W, Calls Tryz.prog 34 #[.int .u8 0, .int .u8 (gb xs (lead xs))] W fun e w' => e = .returned (.int .i64 0) ∧ W = w' from fun W => by have hh := rplane_0 (gb xs (lead xs)) W; rw [show hPlane 0 (gb xs (lead xs)) = 0 from hPl] at hh; exact hh)
            have hne := Lib.hid (show ∀ W, Calls Tryz.prog 35 #[.int .i64 0, .int .u8 (gb xs (lead xs))] W fun e w' => e = .returned (.bool false) ∧ W = w' from fun W => by have hh := drnear_any 0 (gb xs (lead xs)) (hbyte.out (lead xs)) W; rw [hN] at hh; exact hh)
            clear hN e203 e237 hPl
            go_wp2_with fail
            refine (hat.out (lead xs) _ (by first | rfl | omega) (by omega) _ (by repeat (first | with_reducible exact hbel | with_reducible refine Below.setCell ?_ (by show w.heap.size ≤ w.heap.size + 1; omega) _))).mono ?_
            rintro e w' ⟨rfl, rfl⟩
            go_wp2_with fail
            refine (hpl.out _).mono ?_
            rintro e w' ⟨rfl, rfl⟩
            go_wp2_with fail
            refine (hat.out (lead xs) _ (by first | rfl | omega) (by omega) _ (by repeat (first | with_reducible exact hbel | with_reducible refine Below.setCell ?_ (by show w.heap.size ≤ w.heap.size + 1; omega) _))).mono ?_
            rintro e w' ⟨rfl, rfl⟩
            go_wp2_with fail
            refine (hne.out _).mono ?_
            rintro e w' ⟨rfl, rfl⟩
            rcases sizeM_cases 0 (gb xs (lead xs)) with hn | hn | hn
            · have hsz := Lib.hid (show ∀ W, Calls Tryz.prog 36 #[.int .i64 0, .int .u8 (gb xs (lead xs))] W fun e w' => e = .returned (.int .i64 0) ∧ W = w' from fun W => by have hh := rsize_any 0 (gb xs (lead xs)) (hbyte.out (lead xs)) W; rw [hn] at hh; exact hh)
              rw [hn, show immM (gb xs) (lead xs + 1) 0 = 0 from rfl] at fin0
              have hval := Lib.hid (opB_of (opOf xs) (lenOf xs) fin0.out.1 (lenOf_eq xs) ((lead xs + 1 : Nat) + 0) (by rw [fin0.out.2]; first | rfl | omega))
              clear hn
              go_wp2_with fail
              refine (hsz.out _).mono ?_
              rintro e w' ⟨rfl, rfl⟩
              have r9 := Lib.hid (show Row (((((wr).setCell ⟨w.heap.size + 1, 0, none⟩ (.int .i64 0)).setCell ⟨w.heap.size + 1, 1, none⟩ (.int .u8 (gb xs (lead xs)))).setCell ⟨w.heap.size + 1, 4, none⟩ (.int .i64 ((lead xs : Int) + 1)))) (w.heap.size + 1) 39 #[.int .i64 0, .int .u8 (gb xs (lead xs)), .int .u8 0, .int .u16 0, .int .i64 ((lead xs : Int) + 1), .int .i64 ss] from (((r1h.out).set 0 (.int .i64 0)).set 1 (.int .u8 (gb xs (lead xs)))).set 4 (.int .i64 ((lead xs : Int) + 1)))
              have hF9 := Lib.hid (show Fb w (((((wr).setCell ⟨w.heap.size + 1, 0, none⟩ (.int .i64 0)).setCell ⟨w.heap.size + 1, 1, none⟩ (.int .u8 (gb xs (lead xs)))).setCell ⟨w.heap.size + 1, 4, none⟩ (.int .i64 ((lead xs : Int) + 1)))) from ⟨((((hFh.out).set 0 (.int .i64 0)).set 1 (.int .u8 (gb xs (lead xs)))).set 4 (.int .i64 ((lead xs : Int) + 1))).row, ((((hFh.out).set 0 (.int .i64 0)).set 1 (.int .u8 (gb xs (lead xs)))).set 4 (.int .i64 ((lead xs : Int) + 1))).bel⟩)
              go_upto_region 34 with (fail)
              generalize hWX : ((((wr).setCell ⟨w.heap.size + 1, 0, none⟩ (.int .i64 0)).setCell ⟨w.heap.size + 1, 1, none⟩ (.int .u8 (gb xs (lead xs)))).setCell ⟨w.heap.size + 1, 4, none⟩ (.int .i64 ((lead xs : Int) + 1))) = W9 at *
              clear hWX c0 c1 c2 c3 c4 c5 f d0 d1 d2 d3 d4 d5 g hbel
              obtain ⟨⟨c0, c1, c2, c3, c4, c5⟩, f⟩ := row6 r9.out
              obtain ⟨⟨d0, d1, d2, d3, d4, d5⟩, g⟩ := row6 hF9.out.row
              have hbel := hF9.out.bel
              clear r9 hF9
              go_wp2
              all_goals
                rename_i hgt
                first
                | (have hno := hdone.out.2 (by rw [fin0.out.2]; omega)
                   refine bodyPost_ret (v := .tuple #[opV 0 0 0 0 0 0, .bool false]) (by simp [results, Tryz.f18, go_sem, c0, c1, c2, c3, c4, c5, d0, d1, d2, d3, d4, d5]) rfl ?_
                   rw [hno.1, hno.2]
                   exact ⟨rfl, (by repeat (first | with_reducible exact hbel | with_reducible refine Below.drew ?_ | with_reducible refine Below.setCell ?_ (by first | exact Nat.le_refl _ | (show w.heap.size ≤ w.heap.size + 1; omega)) _))⟩)
                | (have hyes := hdone.out.1 (by rw [fin0.out.2]; omega)
                   refine bodyPost_ret (v := .tuple #[opV 0 (gb xs (lead xs)) (0) (0) ((lead xs + 1 : Nat) + 0) (ss), .bool true]) (by simp [results, Tryz.f18, go_sem, c0, c1, c2, c3, c4, c5, d0, d1, d2, d3, d4, d5]; (try omega)) rfl ?_
                   rw [hyes.1, hyes.2]
                   rw [hval.out]
                   exact ⟨rfl, (by repeat (first | with_reducible exact hbel | with_reducible refine Below.drew ?_ | with_reducible refine Below.setCell ?_ (by first | exact Nat.le_refl _ | (show w.heap.size ≤ w.heap.size + 1; omega)) _))⟩)
            · have hsz := Lib.hid (show ∀ W, Calls Tryz.prog 36 #[.int .i64 0, .int .u8 (gb xs (lead xs))] W fun e w' => e = .returned (.int .i64 1) ∧ W = w' from fun W => by have hh := rsize_any 0 (gb xs (lead xs)) (hbyte.out (lead xs)) W; rw [hn] at hh; exact hh)
              rw [hn, show immM (gb xs) (lead xs + 1) 1 = gb xs (lead xs + 1) from rfl] at fin0
              have hval := Lib.hid (opB_of (opOf xs) (lenOf xs) fin0.out.1 (lenOf_eq xs) ((lead xs + 1 : Nat) + 1) (by rw [fin0.out.2]; first | rfl | omega))
              clear hn
              go_wp2_with fail
              refine (hsz.out _).mono ?_
              rintro e w' ⟨rfl, rfl⟩
              have bR := hbyte.out (lead xs + 1)
              have bR0 := bR.1
              have bR1 := bR.2
              go_wp2_with fail
              refine (hat.out (lead xs + 1) _ (by first | rfl | omega) (by omega) _ (by repeat (first | with_reducible exact hbel | with_reducible refine Below.setCell ?_ (by show w.heap.size ≤ w.heap.size + 1; omega) _))).mono ?_
              rintro e w' ⟨rfl, rfl⟩
              have r9 := Lib.hid (show Row ((((((wr).setCell ⟨w.heap.size + 1, 0, none⟩ (.int .i64 0)).setCell ⟨w.heap.size + 1, 1, none⟩ (.int .u8 (gb xs (lead xs)))).setCell ⟨w.heap.size + 1, 3, none⟩ (.int .u16 (gb xs (lead xs + 1)))).setCell ⟨w.heap.size + 1, 4, none⟩ (.int .i64 ((lead xs : Int) + 1 + 1)))) (w.heap.size + 1) 39 #[.int .i64 0, .int .u8 (gb xs (lead xs)), .int .u8 0, .int .u16 (gb xs (lead xs + 1)), .int .i64 ((lead xs : Int) + 1 + 1), .int .i64 ss] from ((((r1h.out).set 0 (.int .i64 0)).set 1 (.int .u8 (gb xs (lead xs)))).set 3 (.int .u16 (gb xs (lead xs + 1)))).set 4 (.int .i64 ((lead xs : Int) + 1 + 1)))
              have hF9 := Lib.hid (show Fb w ((((((wr).setCell ⟨w.heap.size + 1, 0, none⟩ (.int .i64 0)).setCell ⟨w.heap.size + 1, 1, none⟩ (.int .u8 (gb xs (lead xs)))).setCell ⟨w.heap.size + 1, 3, none⟩ (.int .u16 (gb xs (lead xs + 1)))).setCell ⟨w.heap.size + 1, 4, none⟩ (.int .i64 ((lead xs : Int) + 1 + 1)))) from ⟨(((((hFh.out).set 0 (.int .i64 0)).set 1 (.int .u8 (gb xs (lead xs)))).set 3 (.int .u16 (gb xs (lead xs + 1)))).set 4 (.int .i64 ((lead xs : Int) + 1 + 1))).row, (((((hFh.out).set 0 (.int .i64 0)).set 1 (.int .u8 (gb xs (lead xs)))).set 3 (.int .u16 (gb xs (lead xs + 1)))).set 4 (.int .i64 ((lead xs : Int) + 1 + 1))).bel⟩)
              go_upto_region 34 with (fail)
              generalize hWX : (((((wr).setCell ⟨w.heap.size + 1, 0, none⟩ (.int .i64 0)).setCell ⟨w.heap.size + 1, 1, none⟩ (.int .u8 (gb xs (lead xs)))).setCell ⟨w.heap.size + 1, 3, none⟩ (.int .u16 (gb xs (lead xs + 1)))).setCell ⟨w.heap.size + 1, 4, none⟩ (.int .i64 ((lead xs : Int) + 1 + 1))) = W9 at *
              clear hWX c0 c1 c2 c3 c4 c5 f d0 d1 d2 d3 d4 d5 g hbel
              obtain ⟨⟨c0, c1, c2, c3, c4, c5⟩, f⟩ := row6 r9.out
              obtain ⟨⟨d0, d1, d2, d3, d4, d5⟩, g⟩ := row6 hF9.out.row
              have hbel := hF9.out.bel
              clear r9 hF9
              go_wp2
              all_goals
                rename_i hgt
                first
                | (have hno := hdone.out.2 (by rw [fin0.out.2]; omega)
                   refine bodyPost_ret (v := .tuple #[opV 0 0 0 0 0 0, .bool false]) (by simp [results, Tryz.f18, go_sem, c0, c1, c2, c3, c4, c5, d0, d1, d2, d3, d4, d5]) rfl ?_
                   rw [hno.1, hno.2]
                   exact ⟨rfl, (by repeat (first | with_reducible exact hbel | with_reducible refine Below.drew ?_ | with_reducible refine Below.setCell ?_ (by first | exact Nat.le_refl _ | (show w.heap.size ≤ w.heap.size + 1; omega)) _))⟩)
                | (have hyes := hdone.out.1 (by rw [fin0.out.2]; omega)
                   refine bodyPost_ret (v := .tuple #[opV 0 (gb xs (lead xs)) (0) (gb xs (lead xs + 1)) ((lead xs + 1 : Nat) + 1) (ss), .bool true]) (by simp [results, Tryz.f18, go_sem, c0, c1, c2, c3, c4, c5, d0, d1, d2, d3, d4, d5]; (try omega)) rfl ?_
                   rw [hyes.1, hyes.2]
                   rw [hval.out]
                   exact ⟨rfl, (by repeat (first | with_reducible exact hbel | with_reducible refine Below.drew ?_ | with_reducible refine Below.setCell ?_ (by first | exact Nat.le_refl _ | (show w.heap.size ≤ w.heap.size + 1; omega)) _))⟩)
            · have hsz := Lib.hid (show ∀ W, Calls Tryz.prog 36 #[.int .i64 0, .int .u8 (gb xs (lead xs))] W fun e w' => e = .returned (.int .i64 2) ∧ W = w' from fun W => by have hh := rsize_any 0 (gb xs (lead xs)) (hbyte.out (lead xs)) W; rw [hn] at hh; exact hh)
              rw [hn, show immM (gb xs) (lead xs + 1) 2 = gb xs (lead xs + 1) + 256 * gb xs (lead xs + 1 + 1) from by unfold immM; rw [if_neg (by decide), if_neg (by decide)]; omega] at fin0
              have hval := Lib.hid (opB_of (opOf xs) (lenOf xs) fin0.out.1 (lenOf_eq xs) ((lead xs + 1 : Nat) + 2) (by rw [fin0.out.2]; first | rfl | omega))
              clear hn
              go_wp2_with fail
              refine (hsz.out _).mono ?_
              rintro e w' ⟨rfl, rfl⟩
              have bR := hbyte.out (lead xs + 1)
              have bR0 := bR.1
              have bR1 := bR.2
              have bS := hbyte.out (lead xs + 1 + 1)
              have bS0 := bS.1
              have bS1 := bS.2
              go_wp2_with fail
              refine (hat.out (lead xs + 1) _ (by first | rfl | omega) (by omega) _ (by repeat (first | with_reducible exact hbel | with_reducible refine Below.setCell ?_ (by show w.heap.size ≤ w.heap.size + 1; omega) _))).mono ?_
              rintro e w' ⟨rfl, rfl⟩
              have r4 := Lib.hid (show Row ((((wr).setCell ⟨w.heap.size + 1, 0, none⟩ (.int .i64 0)).setCell ⟨w.heap.size + 1, 1, none⟩ (.int .u8 (gb xs (lead xs)))).setCell ⟨w.heap.size + 1, 3, none⟩ (.int .u16 (gb xs (lead xs + 1)))) (w.heap.size + 1) 39 #[.int .i64 0, .int .u8 (gb xs (lead xs)), .int .u8 0, .int .u16 (gb xs (lead xs + 1)), .int .i64 0, .int .i64 ss] from (((r1h.out).set 0 (.int .i64 0)).set 1 (.int .u8 (gb xs (lead xs)))).set 3 (.int .u16 (gb xs (lead xs + 1))))
              have hF4 := Lib.hid ((((hFh.out).set 0 (.int .i64 0)).set 1 (.int .u8 (gb xs (lead xs)))).set 3 (.int .u16 (gb xs (lead xs + 1))))
              go_upto_region 32 with (fail)
              generalize hWX : ((((wr).setCell ⟨w.heap.size + 1, 0, none⟩ (.int .i64 0)).setCell ⟨w.heap.size + 1, 1, none⟩ (.int .u8 (gb xs (lead xs)))).setCell ⟨w.heap.size + 1, 3, none⟩ (.int .u16 (gb xs (lead xs + 1)))) = W4 at *
              clear hWX c0 c1 c2 c3 c4 c5 f d0 d1 d2 d3 d4 d5 g hbel hFh r1h
              obtain ⟨⟨c0, c1, c2, c3, c4, c5⟩, f⟩ := row6 r4.out
              obtain ⟨⟨d0, d1, d2, d3, d4, d5⟩, g⟩ := row6 hF4.out.row
              have hbel := hF4.out.bel
              have bdr := hbel.drew
              go_still_tail 10, (by kernel_rfl)
              still_call ((hat.out ((lead xs + 1) + 1) _ (by first | rfl | omega | (rw [IntKind.wrap_i64]; omega)) (by omega) W4.drew bdr).mono fun e w' h => ⟨h.1, h.2.symm⟩)
              repeat still_step
              refine wpStill_nil ?_
              change wpList _ _ _ _ _ W4.drew
              have r9 := Lib.hid (show Row ((((W4).setCell ⟨w.heap.size + 1, 3, none⟩ (.int .u16 (gb xs (lead xs + 1) + 256 * gb xs (lead xs + 1 + 1)))).setCell ⟨w.heap.size + 1, 4, none⟩ (.int .i64 ((lead xs : Int) + 1 + 2))).drew) (w.heap.size + 1) 39 #[.int .i64 0, .int .u8 (gb xs (lead xs)), .int .u8 0, .int .u16 (gb xs (lead xs + 1) + 256 * gb xs (lead xs + 1 + 1)), .int .i64 ((lead xs : Int) + 1 + 2), .int .i64 ss] from ((r4.out).set 3 (.int .u16 (gb xs (lead xs + 1) + 256 * gb xs (lead xs + 1 + 1)))).set 4 (.int .i64 ((lead xs : Int) + 1 + 2)))
              have hF9 := Lib.hid (show Fb w ((((W4).setCell ⟨w.heap.size + 1, 3, none⟩ (.int .u16 (gb xs (lead xs + 1) + 256 * gb xs (lead xs + 1 + 1)))).setCell ⟨w.heap.size + 1, 4, none⟩ (.int .i64 ((lead xs : Int) + 1 + 2))).drew) from ⟨(((hF4.out).set 3 (.int .u16 (gb xs (lead xs + 1) + 256 * gb xs (lead xs + 1 + 1)))).set 4 (.int .i64 ((lead xs : Int) + 1 + 2))).row, (((hF4.out).set 3 (.int .u16 (gb xs (lead xs + 1) + 256 * gb xs (lead xs + 1 + 1)))).set 4 (.int .i64 ((lead xs : Int) + 1 + 2))).bel.drew⟩)
              go_upto_region 34 with (fail)
              generalize hWX : (((W4).setCell ⟨w.heap.size + 1, 3, none⟩ (.int .u16 (gb xs (lead xs + 1) + 256 * gb xs (lead xs + 1 + 1)))).setCell ⟨w.heap.size + 1, 4, none⟩ (.int .i64 ((lead xs : Int) + 1 + 2))).drew = W9 at *
              clear hWX c0 c1 c2 c3 c4 c5 f d0 d1 d2 d3 d4 d5 g hbel
              obtain ⟨⟨c0, c1, c2, c3, c4, c5⟩, f⟩ := row6 r9.out
              obtain ⟨⟨d0, d1, d2, d3, d4, d5⟩, g⟩ := row6 hF9.out.row
              have hbel := hF9.out.bel
              clear r9 hF9
              go_wp2
              all_goals
                rename_i hgt
                first
                | (have hno := hdone.out.2 (by rw [fin0.out.2]; omega)
                   refine bodyPost_ret (v := .tuple #[opV 0 0 0 0 0 0, .bool false]) (by simp [results, Tryz.f18, go_sem, c0, c1, c2, c3, c4, c5, d0, d1, d2, d3, d4, d5]) rfl ?_
                   rw [hno.1, hno.2]
                   exact ⟨rfl, (by repeat (first | with_reducible exact hbel | with_reducible refine Below.drew ?_ | with_reducible refine Below.setCell ?_ (by first | exact Nat.le_refl _ | (show w.heap.size ≤ w.heap.size + 1; omega)) _))⟩)
                | (have hyes := hdone.out.1 (by rw [fin0.out.2]; omega)
                   refine bodyPost_ret (v := .tuple #[opV 0 (gb xs (lead xs)) (0) (gb xs (lead xs + 1) + 256 * gb xs (lead xs + 1 + 1)) ((lead xs + 1 : Nat) + 2) (ss), .bool true]) (by simp [results, Tryz.f18, go_sem, c0, c1, c2, c3, c4, c5, d0, d1, d2, d3, d4, d5]; (try omega)) rfl ?_
                   rw [hyes.1, hyes.2]
                   rw [hval.out]
                   exact ⟨rfl, (by repeat (first | with_reducible exact hbel | with_reducible refine Below.drew ?_ | with_reducible refine Below.setCell ?_ (by first | exact Nat.le_refl _ | (show w.heap.size ≤ w.heap.size + 1; omega)) _))⟩)
      · go_wp2_with fail
        refine (hat.out (lead xs) _ (by first | rfl | omega) (by omega) _ hbel).mono ?_
        rintro e w' ⟨rfl, rfl⟩
        go_wp2_with fail
        refine (hat.out (lead xs) _ (by first | rfl | omega) (by omega) _ hbel).mono ?_
        rintro e w' ⟨rfl, rfl⟩
        by_cases e203 : gb xs (lead xs) = 203
        · have fin0 := Lib.hid (hk.out 3 ss (gb xs (lead xs)) 5 (gb xs (lead xs + 2)) (gb xs (lead xs + 1)) (ss) (lead xs + 3) h034 rfl rfl (by rw [e203]; rfl) (by unfold hCode; rw [e203]; rfl) (by unfold hDisp; rw [e203]; rfl) (by rw [e203]; rfl) (by unfold hReads; rw [e203]; rfl))
          have hpl := Lib.hid (show ∀ W, Calls Tryz.prog 34 #[.int .u8 221, .int .u8 (gb xs (lead xs))] W fun e w' => e = .returned (.int .i64 5) ∧ W = w' from fun W => by have hh := rplane_221 (gb xs (lead xs)) W; rw [show hPlane 3 (gb xs (lead xs)) = 5 from (by rw [e203]; rfl)] at hh; exact hh)
          clear e203
          go_wp2_with fail
          refine (hat.out (lead xs) _ (by first | rfl | omega) (by omega) _ (by repeat (first | with_reducible exact hbel | with_reducible refine Below.setCell ?_ (by show w.heap.size ≤ w.heap.size + 1; omega) _))).mono ?_
          rintro e w' ⟨rfl, rfl⟩
          go_wp2_with fail
          refine (hpl.out _).mono ?_
          rintro e w' ⟨rfl, rfl⟩
          go_wp2_with fail
          refine (hat.out (lead xs + 1) _ (by first | rfl | omega) (by omega) _ (by repeat (first | with_reducible exact hbel | with_reducible refine Below.setCell ?_ (by show w.heap.size ≤ w.heap.size + 1; omega) _))).mono ?_
          rintro e w' ⟨rfl, rfl⟩
          go_wp2_with fail
          refine (hat.out (lead xs + 2) _ (by first | rfl | omega) (by omega) _ (by repeat (first | with_reducible exact hbel | with_reducible refine Below.setCell ?_ (by show w.heap.size ≤ w.heap.size + 1; omega) _))).mono ?_
          rintro e w' ⟨rfl, rfl⟩
          have hn : sizeM 5 (gb xs (lead xs + 2)) = 0 := rfl
          have hsz := Lib.hid (show ∀ W, Calls Tryz.prog 36 #[.int .i64 5, .int .u8 (gb xs (lead xs + 2))] W fun e w' => e = .returned (.int .i64 0) ∧ W = w' from fun W => by have hh := rsize_any 5 (gb xs (lead xs + 2)) (hbyte.out (lead xs + 2)) W; rw [hn] at hh; exact hh)
          rw [hn, show immM (gb xs) (lead xs + 3) 0 = 0 from rfl] at fin0
          have hval := Lib.hid (opB_of (opOf xs) (lenOf xs) fin0.out.1 (lenOf_eq xs) ((lead xs + 3 : Nat) + 0) (by rw [fin0.out.2]; first | rfl | omega))
          clear hn
          go_wp2_with fail
          refine (hsz.out _).mono ?_
          rintro e w' ⟨rfl, rfl⟩
          have r9 := Lib.hid (show Row ((((((wr).setCell ⟨w.heap.size + 1, 0, none⟩ (.int .i64 5)).setCell ⟨w.heap.size + 1, 2, none⟩ (.int .u8 (gb xs (lead xs + 1)))).setCell ⟨w.heap.size + 1, 1, none⟩ (.int .u8 (gb xs (lead xs + 2)))).setCell ⟨w.heap.size + 1, 4, none⟩ (.int .i64 ((lead xs : Int) + 3)))) (w.heap.size + 1) 39 #[.int .i64 5, .int .u8 (gb xs (lead xs + 2)), .int .u8 (gb xs (lead xs + 1)), .int .u16 0, .int .i64 ((lead xs : Int) + 3), .int .i64 ss] from ((((r1h.out).set 0 (.int .i64 5)).set 2 (.int .u8 (gb xs (lead xs + 1)))).set 1 (.int .u8 (gb xs (lead xs + 2)))).set 4 (.int .i64 ((lead xs : Int) + 3)))
          have hF9 := Lib.hid (show Fb w ((((((wr).setCell ⟨w.heap.size + 1, 0, none⟩ (.int .i64 5)).setCell ⟨w.heap.size + 1, 2, none⟩ (.int .u8 (gb xs (lead xs + 1)))).setCell ⟨w.heap.size + 1, 1, none⟩ (.int .u8 (gb xs (lead xs + 2)))).setCell ⟨w.heap.size + 1, 4, none⟩ (.int .i64 ((lead xs : Int) + 3)))) from ⟨(((((hFh.out).set 0 (.int .i64 5)).set 2 (.int .u8 (gb xs (lead xs + 1)))).set 1 (.int .u8 (gb xs (lead xs + 2)))).set 4 (.int .i64 ((lead xs : Int) + 3))).row, (((((hFh.out).set 0 (.int .i64 5)).set 2 (.int .u8 (gb xs (lead xs + 1)))).set 1 (.int .u8 (gb xs (lead xs + 2)))).set 4 (.int .i64 ((lead xs : Int) + 3))).bel⟩)
          go_upto_region 34 with (fail)
          generalize hWX : (((((wr).setCell ⟨w.heap.size + 1, 0, none⟩ (.int .i64 5)).setCell ⟨w.heap.size + 1, 2, none⟩ (.int .u8 (gb xs (lead xs + 1)))).setCell ⟨w.heap.size + 1, 1, none⟩ (.int .u8 (gb xs (lead xs + 2)))).setCell ⟨w.heap.size + 1, 4, none⟩ (.int .i64 ((lead xs : Int) + 3))) = W9 at *
          clear hWX c0 c1 c2 c3 c4 c5 f d0 d1 d2 d3 d4 d5 g hbel
          obtain ⟨⟨c0, c1, c2, c3, c4, c5⟩, f⟩ := row6 r9.out
          obtain ⟨⟨d0, d1, d2, d3, d4, d5⟩, g⟩ := row6 hF9.out.row
          have hbel := hF9.out.bel
          clear r9 hF9
          go_wp2
          all_goals
            rename_i hgt
            first
            | (have hno := hdone.out.2 (by rw [fin0.out.2]; omega)
               refine bodyPost_ret (v := .tuple #[opV 0 0 0 0 0 0, .bool false]) (by simp [results, Tryz.f18, go_sem, c0, c1, c2, c3, c4, c5, d0, d1, d2, d3, d4, d5]) rfl ?_
               rw [hno.1, hno.2]
               exact ⟨rfl, (by repeat (first | with_reducible exact hbel | with_reducible refine Below.drew ?_ | with_reducible refine Below.setCell ?_ (by first | exact Nat.le_refl _ | (show w.heap.size ≤ w.heap.size + 1; omega)) _))⟩)
            | (have hyes := hdone.out.1 (by rw [fin0.out.2]; omega)
               refine bodyPost_ret (v := .tuple #[opV 5 (gb xs (lead xs + 2)) (gb xs (lead xs + 1)) (0) ((lead xs + 3 : Nat) + 0) (ss), .bool true]) (by simp [results, Tryz.f18, go_sem, c0, c1, c2, c3, c4, c5, d0, d1, d2, d3, d4, d5]; (try omega)) rfl ?_
               rw [hyes.1, hyes.2]
               rw [hval.out]
               exact ⟨rfl, (by repeat (first | with_reducible exact hbel | with_reducible refine Below.drew ?_ | with_reducible refine Below.setCell ?_ (by first | exact Nat.le_refl _ | (show w.heap.size ≤ w.heap.size + 1; omega)) _))⟩)
        · by_cases e237 : gb xs (lead xs) = 237
          · have fin0 := Lib.hid (hk.out 3 ss (gb xs (lead xs)) 2 (gb xs (lead xs + 1)) (0) (ss + 1) (lead xs + 2) h034 rfl rfl (by rw [e237]; rfl) (by unfold hCode; rw [e237]; rfl) (by unfold hDisp; rw [e237]; rfl) (by rw [e237]; rfl) (by unfold hReads; rw [e237]; rfl))
            have hpl := Lib.hid (show ∀ W, Calls Tryz.prog 34 #[.int .u8 221, .int .u8 (gb xs (lead xs))] W fun e w' => e = .returned (.int .i64 2) ∧ W = w' from fun W => by have hh := rplane_221 (gb xs (lead xs)) W; rw [show hPlane 3 (gb xs (lead xs)) = 2 from (by rw [e237]; rfl)] at hh; exact hh)
            clear e203 e237
            go_wp2_with fail
            refine (hat.out (lead xs) _ (by first | rfl | omega) (by omega) _ (by repeat (first | with_reducible exact hbel | with_reducible refine Below.setCell ?_ (by show w.heap.size ≤ w.heap.size + 1; omega) _))).mono ?_
            rintro e w' ⟨rfl, rfl⟩
            go_wp2_with fail
            refine (hpl.out _).mono ?_
            rintro e w' ⟨rfl, rfl⟩
            go_wp2_with fail
            refine (hat.out (lead xs + 1) _ (by first | rfl | omega) (by omega) _ (by repeat (first | with_reducible exact hbel | with_reducible refine Below.setCell ?_ (by show w.heap.size ≤ w.heap.size + 1; omega) _))).mono ?_
            rintro e w' ⟨rfl, rfl⟩
            rcases sizeM_two (gb xs (lead xs + 1)) with hn | hn
            · have hsz := Lib.hid (show ∀ W, Calls Tryz.prog 36 #[.int .i64 2, .int .u8 (gb xs (lead xs + 1))] W fun e w' => e = .returned (.int .i64 0) ∧ W = w' from fun W => by have hh := rsize_any 2 (gb xs (lead xs + 1)) (hbyte.out (lead xs + 1)) W; rw [hn] at hh; exact hh)
              rw [hn, show immM (gb xs) (lead xs + 2) 0 = 0 from rfl] at fin0
              have hval := Lib.hid (opB_of (opOf xs) (lenOf xs) fin0.out.1 (lenOf_eq xs) ((lead xs + 2 : Nat) + 0) (by rw [fin0.out.2]; first | rfl | omega))
              clear hn
              go_wp2_with fail
              refine (hsz.out _).mono ?_
              rintro e w' ⟨rfl, rfl⟩
              have r9 := Lib.hid (show Row ((((((wr).setCell ⟨w.heap.size + 1, 0, none⟩ (.int .i64 2)).setCell ⟨w.heap.size + 1, 5, none⟩ (.int .i64 (ss + 1))).setCell ⟨w.heap.size + 1, 1, none⟩ (.int .u8 (gb xs (lead xs + 1)))).setCell ⟨w.heap.size + 1, 4, none⟩ (.int .i64 ((lead xs : Int) + 2)))) (w.heap.size + 1) 39 #[.int .i64 2, .int .u8 (gb xs (lead xs + 1)), .int .u8 0, .int .u16 0, .int .i64 ((lead xs : Int) + 2), .int .i64 (ss + 1)] from ((((r1h.out).set 0 (.int .i64 2)).set 5 (.int .i64 (ss + 1))).set 1 (.int .u8 (gb xs (lead xs + 1)))).set 4 (.int .i64 ((lead xs : Int) + 2)))
              have hF9 := Lib.hid (show Fb w ((((((wr).setCell ⟨w.heap.size + 1, 0, none⟩ (.int .i64 2)).setCell ⟨w.heap.size + 1, 5, none⟩ (.int .i64 (ss + 1))).setCell ⟨w.heap.size + 1, 1, none⟩ (.int .u8 (gb xs (lead xs + 1)))).setCell ⟨w.heap.size + 1, 4, none⟩ (.int .i64 ((lead xs : Int) + 2)))) from ⟨(((((hFh.out).set 0 (.int .i64 2)).set 5 (.int .i64 (ss + 1))).set 1 (.int .u8 (gb xs (lead xs + 1)))).set 4 (.int .i64 ((lead xs : Int) + 2))).row, (((((hFh.out).set 0 (.int .i64 2)).set 5 (.int .i64 (ss + 1))).set 1 (.int .u8 (gb xs (lead xs + 1)))).set 4 (.int .i64 ((lead xs : Int) + 2))).bel⟩)
              go_upto_region 34 with (fail)
              generalize hWX : (((((wr).setCell ⟨w.heap.size + 1, 0, none⟩ (.int .i64 2)).setCell ⟨w.heap.size + 1, 5, none⟩ (.int .i64 (ss + 1))).setCell ⟨w.heap.size + 1, 1, none⟩ (.int .u8 (gb xs (lead xs + 1)))).setCell ⟨w.heap.size + 1, 4, none⟩ (.int .i64 ((lead xs : Int) + 2))) = W9 at *
              clear hWX c0 c1 c2 c3 c4 c5 f d0 d1 d2 d3 d4 d5 g hbel
              obtain ⟨⟨c0, c1, c2, c3, c4, c5⟩, f⟩ := row6 r9.out
              obtain ⟨⟨d0, d1, d2, d3, d4, d5⟩, g⟩ := row6 hF9.out.row
              have hbel := hF9.out.bel
              clear r9 hF9
              go_wp2
              all_goals
                rename_i hgt
                first
                | (have hno := hdone.out.2 (by rw [fin0.out.2]; omega)
                   refine bodyPost_ret (v := .tuple #[opV 0 0 0 0 0 0, .bool false]) (by simp [results, Tryz.f18, go_sem, c0, c1, c2, c3, c4, c5, d0, d1, d2, d3, d4, d5]) rfl ?_
                   rw [hno.1, hno.2]
                   exact ⟨rfl, (by repeat (first | with_reducible exact hbel | with_reducible refine Below.drew ?_ | with_reducible refine Below.setCell ?_ (by first | exact Nat.le_refl _ | (show w.heap.size ≤ w.heap.size + 1; omega)) _))⟩)
                | (have hyes := hdone.out.1 (by rw [fin0.out.2]; omega)
                   refine bodyPost_ret (v := .tuple #[opV 2 (gb xs (lead xs + 1)) (0) (0) ((lead xs + 2 : Nat) + 0) (ss + 1), .bool true]) (by simp [results, Tryz.f18, go_sem, c0, c1, c2, c3, c4, c5, d0, d1, d2, d3, d4, d5]; (try omega)) rfl ?_
                   rw [hyes.1, hyes.2]
                   rw [hval.out]
                   exact ⟨rfl, (by repeat (first | with_reducible exact hbel | with_reducible refine Below.drew ?_ | with_reducible refine Below.setCell ?_ (by first | exact Nat.le_refl _ | (show w.heap.size ≤ w.heap.size + 1; omega)) _))⟩)
            · have hsz := Lib.hid (show ∀ W, Calls Tryz.prog 36 #[.int .i64 2, .int .u8 (gb xs (lead xs + 1))] W fun e w' => e = .returned (.int .i64 2) ∧ W = w' from fun W => by have hh := rsize_any 2 (gb xs (lead xs + 1)) (hbyte.out (lead xs + 1)) W; rw [hn] at hh; exact hh)
              rw [hn, show immM (gb xs) (lead xs + 2) 2 = gb xs (lead xs + 2) + 256 * gb xs (lead xs + 2 + 1) from by unfold immM; rw [if_neg (by decide), if_neg (by decide)]; omega] at fin0
              have hval := Lib.hid (opB_of (opOf xs) (lenOf xs) fin0.out.1 (lenOf_eq xs) ((lead xs + 2 : Nat) + 2) (by rw [fin0.out.2]; first | rfl | omega))
              clear hn
              go_wp2_with fail
              refine (hsz.out _).mono ?_
              rintro e w' ⟨rfl, rfl⟩
              have bR := hbyte.out (lead xs + 2)
              have bR0 := bR.1
              have bR1 := bR.2
              have bS := hbyte.out (lead xs + 2 + 1)
              have bS0 := bS.1
              have bS1 := bS.2
              go_wp2_with fail
              refine (hat.out (lead xs + 2) _ (by first | rfl | omega) (by omega) _ (by repeat (first | with_reducible exact hbel | with_reducible refine Below.setCell ?_ (by show w.heap.size ≤ w.heap.size + 1; omega) _))).mono ?_
              rintro e w' ⟨rfl, rfl⟩
              have r4 := Lib.hid (show Row (((((wr).setCell ⟨w.heap.size + 1, 0, none⟩ (.int .i64 2)).setCell ⟨w.heap.size + 1, 5, none⟩ (.int .i64 (ss + 1))).setCell ⟨w.heap.size + 1, 1, none⟩ (.int .u8 (gb xs (lead xs + 1)))).setCell ⟨w.heap.size + 1, 3, none⟩ (.int .u16 (gb xs (lead xs + 2)))) (w.heap.size + 1) 39 #[.int .i64 2, .int .u8 (gb xs (lead xs + 1)), .int .u8 0, .int .u16 (gb xs (lead xs + 2)), .int .i64 0, .int .i64 (ss + 1)] from ((((r1h.out).set 0 (.int .i64 2)).set 5 (.int .i64 (ss + 1))).set 1 (.int .u8 (gb xs (lead xs + 1)))).set 3 (.int .u16 (gb xs (lead xs + 2))))
              have hF4 := Lib.hid (((((hFh.out).set 0 (.int .i64 2)).set 5 (.int .i64 (ss + 1))).set 1 (.int .u8 (gb xs (lead xs + 1)))).set 3 (.int .u16 (gb xs (lead xs + 2))))
              go_upto_region 32 with (fail)
              generalize hWX : (((((wr).setCell ⟨w.heap.size + 1, 0, none⟩ (.int .i64 2)).setCell ⟨w.heap.size + 1, 5, none⟩ (.int .i64 (ss + 1))).setCell ⟨w.heap.size + 1, 1, none⟩ (.int .u8 (gb xs (lead xs + 1)))).setCell ⟨w.heap.size + 1, 3, none⟩ (.int .u16 (gb xs (lead xs + 2)))) = W4 at *
              clear hWX c0 c1 c2 c3 c4 c5 f d0 d1 d2 d3 d4 d5 g hbel hFh r1h
              obtain ⟨⟨c0, c1, c2, c3, c4, c5⟩, f⟩ := row6 r4.out
              obtain ⟨⟨d0, d1, d2, d3, d4, d5⟩, g⟩ := row6 hF4.out.row
              have hbel := hF4.out.bel
              have bdr := hbel.drew
              go_still_tail 10, (by kernel_rfl)
              still_call ((hat.out ((lead xs + 2) + 1) _ (by first | rfl | omega | (rw [IntKind.wrap_i64]; omega)) (by omega) W4.drew bdr).mono fun e w' h => ⟨h.1, h.2.symm⟩)
              repeat still_step
              refine wpStill_nil ?_
              change wpList _ _ _ _ _ W4.drew
              have r9 := Lib.hid (show Row ((((W4).setCell ⟨w.heap.size + 1, 3, none⟩ (.int .u16 (gb xs (lead xs + 2) + 256 * gb xs (lead xs + 2 + 1)))).setCell ⟨w.heap.size + 1, 4, none⟩ (.int .i64 ((lead xs : Int) + 2 + 2))).drew) (w.heap.size + 1) 39 #[.int .i64 2, .int .u8 (gb xs (lead xs + 1)), .int .u8 0, .int .u16 (gb xs (lead xs + 2) + 256 * gb xs (lead xs + 2 + 1)), .int .i64 ((lead xs : Int) + 2 + 2), .int .i64 (ss + 1)] from ((r4.out).set 3 (.int .u16 (gb xs (lead xs + 2) + 256 * gb xs (lead xs + 2 + 1)))).set 4 (.int .i64 ((lead xs : Int) + 2 + 2)))
              have hF9 := Lib.hid (show Fb w ((((W4).setCell ⟨w.heap.size + 1, 3, none⟩ (.int .u16 (gb xs (lead xs + 2) + 256 * gb xs (lead xs + 2 + 1)))).setCell ⟨w.heap.size + 1, 4, none⟩ (.int .i64 ((lead xs : Int) + 2 + 2))).drew) from ⟨(((hF4.out).set 3 (.int .u16 (gb xs (lead xs + 2) + 256 * gb xs (lead xs + 2 + 1)))).set 4 (.int .i64 ((lead xs : Int) + 2 + 2))).row, (((hF4.out).set 3 (.int .u16 (gb xs (lead xs + 2) + 256 * gb xs (lead xs + 2 + 1)))).set 4 (.int .i64 ((lead xs : Int) + 2 + 2))).bel.drew⟩)
              go_upto_region 34 with (fail)
              generalize hWX : (((W4).setCell ⟨w.heap.size + 1, 3, none⟩ (.int .u16 (gb xs (lead xs + 2) + 256 * gb xs (lead xs + 2 + 1)))).setCell ⟨w.heap.size + 1, 4, none⟩ (.int .i64 ((lead xs : Int) + 2 + 2))).drew = W9 at *
              clear hWX c0 c1 c2 c3 c4 c5 f d0 d1 d2 d3 d4 d5 g hbel
              obtain ⟨⟨c0, c1, c2, c3, c4, c5⟩, f⟩ := row6 r9.out
              obtain ⟨⟨d0, d1, d2, d3, d4, d5⟩, g⟩ := row6 hF9.out.row
              have hbel := hF9.out.bel
              clear r9 hF9
              go_wp2
              all_goals
                rename_i hgt
                first
                | (have hno := hdone.out.2 (by rw [fin0.out.2]; omega)
                   refine bodyPost_ret (v := .tuple #[opV 0 0 0 0 0 0, .bool false]) (by simp [results, Tryz.f18, go_sem, c0, c1, c2, c3, c4, c5, d0, d1, d2, d3, d4, d5]) rfl ?_
                   rw [hno.1, hno.2]
                   exact ⟨rfl, (by repeat (first | with_reducible exact hbel | with_reducible refine Below.drew ?_ | with_reducible refine Below.setCell ?_ (by first | exact Nat.le_refl _ | (show w.heap.size ≤ w.heap.size + 1; omega)) _))⟩)
                | (have hyes := hdone.out.1 (by rw [fin0.out.2]; omega)
                   refine bodyPost_ret (v := .tuple #[opV 2 (gb xs (lead xs + 1)) (0) (gb xs (lead xs + 2) + 256 * gb xs (lead xs + 2 + 1)) ((lead xs + 2 : Nat) + 2) (ss + 1), .bool true]) (by simp [results, Tryz.f18, go_sem, c0, c1, c2, c3, c4, c5, d0, d1, d2, d3, d4, d5]; (try omega)) rfl ?_
                   rw [hyes.1, hyes.2]
                   rw [hval.out]
                   exact ⟨rfl, (by repeat (first | with_reducible exact hbel | with_reducible refine Below.drew ?_ | with_reducible refine Below.setCell ?_ (by first | exact Nat.le_refl _ | (show w.heap.size ≤ w.heap.size + 1; omega)) _))⟩)
          · cases hN : nearM 3 (gb xs (lead xs))
            · have hPl : hPlane 3 (gb xs (lead xs)) = 3 := by unfold hPlane; rw [if_neg e203, if_neg e237]
              have fin0 := Lib.hid (hk.out 3 ss (gb xs (lead xs)) 3 (gb xs (lead xs)) (0) (ss) (lead xs + 1) h034 rfl rfl hPl (by unfold hCode; rw [hPl, if_neg (by decide), if_neg (by omega)]) (by unfold hDisp; rw [hPl, if_neg (by decide), if_neg (by omega), hN]; rfl) (by unfold hSkip; rw [if_neg (by omega)]) (by unfold hReads; rw [hPl, if_neg (by decide), if_neg (by omega), hN]; rfl))
              have hpl := Lib.hid (show ∀ W, Calls Tryz.prog 34 #[.int .u8 221, .int .u8 (gb xs (lead xs))] W fun e w' => e = .returned (.int .i64 3) ∧ W = w' from fun W => by have hh := rplane_221 (gb xs (lead xs)) W; rw [show hPlane 3 (gb xs (lead xs)) = 3 from hPl] at hh; exact hh)
              have hne := Lib.hid (show ∀ W, Calls Tryz.prog 35 #[.int .i64 3, .int .u8 (gb xs (lead xs))] W fun e w' => e = .returned (.bool false) ∧ W = w' from fun W => by have hh := drnear_any 3 (gb xs (lead xs)) (hbyte.out (lead xs)) W; rw [hN] at hh; exact hh)
              clear hN e203 e237 hPl
              go_wp2_with fail
              refine (hat.out (lead xs) _ (by first | rfl | omega) (by omega) _ (by repeat (first | with_reducible exact hbel | with_reducible refine Below.setCell ?_ (by show w.heap.size ≤ w.heap.size + 1; omega) _))).mono ?_
              rintro e w' ⟨rfl, rfl⟩
              go_wp2_with fail
              refine (hpl.out _).mono ?_
              rintro e w' ⟨rfl, rfl⟩
              go_wp2_with fail
              refine (hat.out (lead xs) _ (by first | rfl | omega) (by omega) _ (by repeat (first | with_reducible exact hbel | with_reducible refine Below.setCell ?_ (by show w.heap.size ≤ w.heap.size + 1; omega) _))).mono ?_
              rintro e w' ⟨rfl, rfl⟩
              go_wp2_with fail
              refine (hne.out _).mono ?_
              rintro e w' ⟨rfl, rfl⟩
              rcases sizeM_cases 3 (gb xs (lead xs)) with hn | hn | hn
              · have hsz := Lib.hid (show ∀ W, Calls Tryz.prog 36 #[.int .i64 3, .int .u8 (gb xs (lead xs))] W fun e w' => e = .returned (.int .i64 0) ∧ W = w' from fun W => by have hh := rsize_any 3 (gb xs (lead xs)) (hbyte.out (lead xs)) W; rw [hn] at hh; exact hh)
                rw [hn, show immM (gb xs) (lead xs + 1) 0 = 0 from rfl] at fin0
                have hval := Lib.hid (opB_of (opOf xs) (lenOf xs) fin0.out.1 (lenOf_eq xs) ((lead xs + 1 : Nat) + 0) (by rw [fin0.out.2]; first | rfl | omega))
                clear hn
                go_wp2_with fail
                refine (hsz.out _).mono ?_
                rintro e w' ⟨rfl, rfl⟩
                have r9 := Lib.hid (show Row (((((wr).setCell ⟨w.heap.size + 1, 0, none⟩ (.int .i64 3)).setCell ⟨w.heap.size + 1, 1, none⟩ (.int .u8 (gb xs (lead xs)))).setCell ⟨w.heap.size + 1, 4, none⟩ (.int .i64 ((lead xs : Int) + 1)))) (w.heap.size + 1) 39 #[.int .i64 3, .int .u8 (gb xs (lead xs)), .int .u8 0, .int .u16 0, .int .i64 ((lead xs : Int) + 1), .int .i64 ss] from (((r1h.out).set 0 (.int .i64 3)).set 1 (.int .u8 (gb xs (lead xs)))).set 4 (.int .i64 ((lead xs : Int) + 1)))
                have hF9 := Lib.hid (show Fb w (((((wr).setCell ⟨w.heap.size + 1, 0, none⟩ (.int .i64 3)).setCell ⟨w.heap.size + 1, 1, none⟩ (.int .u8 (gb xs (lead xs)))).setCell ⟨w.heap.size + 1, 4, none⟩ (.int .i64 ((lead xs : Int) + 1)))) from ⟨((((hFh.out).set 0 (.int .i64 3)).set 1 (.int .u8 (gb xs (lead xs)))).set 4 (.int .i64 ((lead xs : Int) + 1))).row, ((((hFh.out).set 0 (.int .i64 3)).set 1 (.int .u8 (gb xs (lead xs)))).set 4 (.int .i64 ((lead xs : Int) + 1))).bel⟩)
                go_upto_region 34 with (fail)
                generalize hWX : ((((wr).setCell ⟨w.heap.size + 1, 0, none⟩ (.int .i64 3)).setCell ⟨w.heap.size + 1, 1, none⟩ (.int .u8 (gb xs (lead xs)))).setCell ⟨w.heap.size + 1, 4, none⟩ (.int .i64 ((lead xs : Int) + 1))) = W9 at *
                clear hWX c0 c1 c2 c3 c4 c5 f d0 d1 d2 d3 d4 d5 g hbel
                obtain ⟨⟨c0, c1, c2, c3, c4, c5⟩, f⟩ := row6 r9.out
                obtain ⟨⟨d0, d1, d2, d3, d4, d5⟩, g⟩ := row6 hF9.out.row
                have hbel := hF9.out.bel
                clear r9 hF9
                go_wp2
                all_goals
                  rename_i hgt
                  first
                  | (have hno := hdone.out.2 (by rw [fin0.out.2]; omega)
                     refine bodyPost_ret (v := .tuple #[opV 0 0 0 0 0 0, .bool false]) (by simp [results, Tryz.f18, go_sem, c0, c1, c2, c3, c4, c5, d0, d1, d2, d3, d4, d5]) rfl ?_
                     rw [hno.1, hno.2]
                     exact ⟨rfl, (by repeat (first | with_reducible exact hbel | with_reducible refine Below.drew ?_ | with_reducible refine Below.setCell ?_ (by first | exact Nat.le_refl _ | (show w.heap.size ≤ w.heap.size + 1; omega)) _))⟩)
                  | (have hyes := hdone.out.1 (by rw [fin0.out.2]; omega)
                     refine bodyPost_ret (v := .tuple #[opV 3 (gb xs (lead xs)) (0) (0) ((lead xs + 1 : Nat) + 0) (ss), .bool true]) (by simp [results, Tryz.f18, go_sem, c0, c1, c2, c3, c4, c5, d0, d1, d2, d3, d4, d5]; (try omega)) rfl ?_
                     rw [hyes.1, hyes.2]
                     rw [hval.out]
                     exact ⟨rfl, (by repeat (first | with_reducible exact hbel | with_reducible refine Below.drew ?_ | with_reducible refine Below.setCell ?_ (by first | exact Nat.le_refl _ | (show w.heap.size ≤ w.heap.size + 1; omega)) _))⟩)
              · have hsz := Lib.hid (show ∀ W, Calls Tryz.prog 36 #[.int .i64 3, .int .u8 (gb xs (lead xs))] W fun e w' => e = .returned (.int .i64 1) ∧ W = w' from fun W => by have hh := rsize_any 3 (gb xs (lead xs)) (hbyte.out (lead xs)) W; rw [hn] at hh; exact hh)
                rw [hn, show immM (gb xs) (lead xs + 1) 1 = gb xs (lead xs + 1) from rfl] at fin0
                have hval := Lib.hid (opB_of (opOf xs) (lenOf xs) fin0.out.1 (lenOf_eq xs) ((lead xs + 1 : Nat) + 1) (by rw [fin0.out.2]; first | rfl | omega))
                clear hn
                go_wp2_with fail
                refine (hsz.out _).mono ?_
                rintro e w' ⟨rfl, rfl⟩
                have bR := hbyte.out (lead xs + 1)
                have bR0 := bR.1
                have bR1 := bR.2
                go_wp2_with fail
                refine (hat.out (lead xs + 1) _ (by first | rfl | omega) (by omega) _ (by repeat (first | with_reducible exact hbel | with_reducible refine Below.setCell ?_ (by show w.heap.size ≤ w.heap.size + 1; omega) _))).mono ?_
                rintro e w' ⟨rfl, rfl⟩
                have r9 := Lib.hid (show Row ((((((wr).setCell ⟨w.heap.size + 1, 0, none⟩ (.int .i64 3)).setCell ⟨w.heap.size + 1, 1, none⟩ (.int .u8 (gb xs (lead xs)))).setCell ⟨w.heap.size + 1, 3, none⟩ (.int .u16 (gb xs (lead xs + 1)))).setCell ⟨w.heap.size + 1, 4, none⟩ (.int .i64 ((lead xs : Int) + 1 + 1)))) (w.heap.size + 1) 39 #[.int .i64 3, .int .u8 (gb xs (lead xs)), .int .u8 0, .int .u16 (gb xs (lead xs + 1)), .int .i64 ((lead xs : Int) + 1 + 1), .int .i64 ss] from ((((r1h.out).set 0 (.int .i64 3)).set 1 (.int .u8 (gb xs (lead xs)))).set 3 (.int .u16 (gb xs (lead xs + 1)))).set 4 (.int .i64 ((lead xs : Int) + 1 + 1)))
                have hF9 := Lib.hid (show Fb w ((((((wr).setCell ⟨w.heap.size + 1, 0, none⟩ (.int .i64 3)).setCell ⟨w.heap.size + 1, 1, none⟩ (.int .u8 (gb xs (lead xs)))).setCell ⟨w.heap.size + 1, 3, none⟩ (.int .u16 (gb xs (lead xs + 1)))).setCell ⟨w.heap.size + 1, 4, none⟩ (.int .i64 ((lead xs : Int) + 1 + 1)))) from ⟨(((((hFh.out).set 0 (.int .i64 3)).set 1 (.int .u8 (gb xs (lead xs)))).set 3 (.int .u16 (gb xs (lead xs + 1)))).set 4 (.int .i64 ((lead xs : Int) + 1 + 1))).row, (((((hFh.out).set 0 (.int .i64 3)).set 1 (.int .u8 (gb xs (lead xs)))).set 3 (.int .u16 (gb xs (lead xs + 1)))).set 4 (.int .i64 ((lead xs : Int) + 1 + 1))).bel⟩)
                go_upto_region 34 with (fail)
                generalize hWX : (((((wr).setCell ⟨w.heap.size + 1, 0, none⟩ (.int .i64 3)).setCell ⟨w.heap.size + 1, 1, none⟩ (.int .u8 (gb xs (lead xs)))).setCell ⟨w.heap.size + 1, 3, none⟩ (.int .u16 (gb xs (lead xs + 1)))).setCell ⟨w.heap.size + 1, 4, none⟩ (.int .i64 ((lead xs : Int) + 1 + 1))) = W9 at *
                clear hWX c0 c1 c2 c3 c4 c5 f d0 d1 d2 d3 d4 d5 g hbel
                obtain ⟨⟨c0, c1, c2, c3, c4, c5⟩, f⟩ := row6 r9.out
                obtain ⟨⟨d0, d1, d2, d3, d4, d5⟩, g⟩ := row6 hF9.out.row
                have hbel := hF9.out.bel
                clear r9 hF9
                go_wp2
                all_goals
                  rename_i hgt
                  first
                  | (have hno := hdone.out.2 (by rw [fin0.out.2]; omega)
                     refine bodyPost_ret (v := .tuple #[opV 0 0 0 0 0 0, .bool false]) (by simp [results, Tryz.f18, go_sem, c0, c1, c2, c3, c4, c5, d0, d1, d2, d3, d4, d5]) rfl ?_
                     rw [hno.1, hno.2]
                     exact ⟨rfl, (by repeat (first | with_reducible exact hbel | with_reducible refine Below.drew ?_ | with_reducible refine Below.setCell ?_ (by first | exact Nat.le_refl _ | (show w.heap.size ≤ w.heap.size + 1; omega)) _))⟩)
                  | (have hyes := hdone.out.1 (by rw [fin0.out.2]; omega)
                     refine bodyPost_ret (v := .tuple #[opV 3 (gb xs (lead xs)) (0) (gb xs (lead xs + 1)) ((lead xs + 1 : Nat) + 1) (ss), .bool true]) (by simp [results, Tryz.f18, go_sem, c0, c1, c2, c3, c4, c5, d0, d1, d2, d3, d4, d5]; (try omega)) rfl ?_
                     rw [hyes.1, hyes.2]
                     rw [hval.out]
                     exact ⟨rfl, (by repeat (first | with_reducible exact hbel | with_reducible refine Below.drew ?_ | with_reducible refine Below.setCell ?_ (by first | exact Nat.le_refl _ | (show w.heap.size ≤ w.heap.size + 1; omega)) _))⟩)
              · have hsz := Lib.hid (show ∀ W, Calls Tryz.prog 36 #[.int .i64 3, .int .u8 (gb xs (lead xs))] W fun e w' => e = .returned (.int .i64 2) ∧ W = w' from fun W => by have hh := rsize_any 3 (gb xs (lead xs)) (hbyte.out (lead xs)) W; rw [hn] at hh; exact hh)
                rw [hn, show immM (gb xs) (lead xs + 1) 2 = gb xs (lead xs + 1) + 256 * gb xs (lead xs + 1 + 1) from by unfold immM; rw [if_neg (by decide), if_neg (by decide)]; omega] at fin0
                have hval := Lib.hid (opB_of (opOf xs) (lenOf xs) fin0.out.1 (lenOf_eq xs) ((lead xs + 1 : Nat) + 2) (by rw [fin0.out.2]; first | rfl | omega))
                clear hn
                go_wp2_with fail
                refine (hsz.out _).mono ?_
                rintro e w' ⟨rfl, rfl⟩
                have bR := hbyte.out (lead xs + 1)
                have bR0 := bR.1
                have bR1 := bR.2
                have bS := hbyte.out (lead xs + 1 + 1)
                have bS0 := bS.1
                have bS1 := bS.2
                go_wp2_with fail
                refine (hat.out (lead xs + 1) _ (by first | rfl | omega) (by omega) _ (by repeat (first | with_reducible exact hbel | with_reducible refine Below.setCell ?_ (by show w.heap.size ≤ w.heap.size + 1; omega) _))).mono ?_
                rintro e w' ⟨rfl, rfl⟩
                have r4 := Lib.hid (show Row ((((wr).setCell ⟨w.heap.size + 1, 0, none⟩ (.int .i64 3)).setCell ⟨w.heap.size + 1, 1, none⟩ (.int .u8 (gb xs (lead xs)))).setCell ⟨w.heap.size + 1, 3, none⟩ (.int .u16 (gb xs (lead xs + 1)))) (w.heap.size + 1) 39 #[.int .i64 3, .int .u8 (gb xs (lead xs)), .int .u8 0, .int .u16 (gb xs (lead xs + 1)), .int .i64 0, .int .i64 ss] from (((r1h.out).set 0 (.int .i64 3)).set 1 (.int .u8 (gb xs (lead xs)))).set 3 (.int .u16 (gb xs (lead xs + 1))))
                have hF4 := Lib.hid ((((hFh.out).set 0 (.int .i64 3)).set 1 (.int .u8 (gb xs (lead xs)))).set 3 (.int .u16 (gb xs (lead xs + 1))))
                go_upto_region 32 with (fail)
                generalize hWX : ((((wr).setCell ⟨w.heap.size + 1, 0, none⟩ (.int .i64 3)).setCell ⟨w.heap.size + 1, 1, none⟩ (.int .u8 (gb xs (lead xs)))).setCell ⟨w.heap.size + 1, 3, none⟩ (.int .u16 (gb xs (lead xs + 1)))) = W4 at *
                clear hWX c0 c1 c2 c3 c4 c5 f d0 d1 d2 d3 d4 d5 g hbel hFh r1h
                obtain ⟨⟨c0, c1, c2, c3, c4, c5⟩, f⟩ := row6 r4.out
                obtain ⟨⟨d0, d1, d2, d3, d4, d5⟩, g⟩ := row6 hF4.out.row
                have hbel := hF4.out.bel
                have bdr := hbel.drew
                go_still_tail 10, (by kernel_rfl)
                still_call ((hat.out ((lead xs + 1) + 1) _ (by first | rfl | omega | (rw [IntKind.wrap_i64]; omega)) (by omega) W4.drew bdr).mono fun e w' h => ⟨h.1, h.2.symm⟩)
                repeat still_step
                refine wpStill_nil ?_
                change wpList _ _ _ _ _ W4.drew
                have r9 := Lib.hid (show Row ((((W4).setCell ⟨w.heap.size + 1, 3, none⟩ (.int .u16 (gb xs (lead xs + 1) + 256 * gb xs (lead xs + 1 + 1)))).setCell ⟨w.heap.size + 1, 4, none⟩ (.int .i64 ((lead xs : Int) + 1 + 2))).drew) (w.heap.size + 1) 39 #[.int .i64 3, .int .u8 (gb xs (lead xs)), .int .u8 0, .int .u16 (gb xs (lead xs + 1) + 256 * gb xs (lead xs + 1 + 1)), .int .i64 ((lead xs : Int) + 1 + 2), .int .i64 ss] from ((r4.out).set 3 (.int .u16 (gb xs (lead xs + 1) + 256 * gb xs (lead xs + 1 + 1)))).set 4 (.int .i64 ((lead xs : Int) + 1 + 2)))
                have hF9 := Lib.hid (show Fb w ((((W4).setCell ⟨w.heap.size + 1, 3, none⟩ (.int .u16 (gb xs (lead xs + 1) + 256 * gb xs (lead xs + 1 + 1)))).setCell ⟨w.heap.size + 1, 4, none⟩ (.int .i64 ((lead xs : Int) + 1 + 2))).drew) from ⟨(((hF4.out).set 3 (.int .u16 (gb xs (lead xs + 1) + 256 * gb xs (lead xs + 1 + 1)))).set 4 (.int .i64 ((lead xs : Int) + 1 + 2))).row, (((hF4.out).set 3 (.int .u16 (gb xs (lead xs + 1) + 256 * gb xs (lead xs + 1 + 1)))).set 4 (.int .i64 ((lead xs : Int) + 1 + 2))).bel.drew⟩)
                go_upto_region 34 with (fail)
                generalize hWX : (((W4).setCell ⟨w.heap.size + 1, 3, none⟩ (.int .u16 (gb xs (lead xs + 1) + 256 * gb xs (lead xs + 1 + 1)))).setCell ⟨w.heap.size + 1, 4, none⟩ (.int .i64 ((lead xs : Int) + 1 + 2))).drew = W9 at *
                clear hWX c0 c1 c2 c3 c4 c5 f d0 d1 d2 d3 d4 d5 g hbel
                obtain ⟨⟨c0, c1, c2, c3, c4, c5⟩, f⟩ := row6 r9.out
                obtain ⟨⟨d0, d1, d2, d3, d4, d5⟩, g⟩ := row6 hF9.out.row
                have hbel := hF9.out.bel
                clear r9 hF9
                go_wp2
                all_goals
                  rename_i hgt
                  first
                  | (have hno := hdone.out.2 (by rw [fin0.out.2]; omega)
                     refine bodyPost_ret (v := .tuple #[opV 0 0 0 0 0 0, .bool false]) (by simp [results, Tryz.f18, go_sem, c0, c1, c2, c3, c4, c5, d0, d1, d2, d3, d4, d5]) rfl ?_
                     rw [hno.1, hno.2]
                     exact ⟨rfl, (by repeat (first | with_reducible exact hbel | with_reducible refine Below.drew ?_ | with_reducible refine Below.setCell ?_ (by first | exact Nat.le_refl _ | (show w.heap.size ≤ w.heap.size + 1; omega)) _))⟩)
                  | (have hyes := hdone.out.1 (by rw [fin0.out.2]; omega)
                     refine bodyPost_ret (v := .tuple #[opV 3 (gb xs (lead xs)) (0) (gb xs (lead xs + 1) + 256 * gb xs (lead xs + 1 + 1)) ((lead xs + 1 : Nat) + 2) (ss), .bool true]) (by simp [results, Tryz.f18, go_sem, c0, c1, c2, c3, c4, c5, d0, d1, d2, d3, d4, d5]; (try omega)) rfl ?_
                     rw [hyes.1, hyes.2]
                     rw [hval.out]
                     exact ⟨rfl, (by repeat (first | with_reducible exact hbel | with_reducible refine Below.drew ?_ | with_reducible refine Below.setCell ?_ (by first | exact Nat.le_refl _ | (show w.heap.size ≤ w.heap.size + 1; omega)) _))⟩)
            · have hPl : hPlane 3 (gb xs (lead xs)) = 3 := by unfold hPlane; rw [if_neg e203, if_neg e237]
              have fin0 := Lib.hid (hk.out 3 ss (gb xs (lead xs)) 3 (gb xs (lead xs)) (gb xs (lead xs + 1)) (ss) (lead xs + 2) h034 rfl rfl hPl (by unfold hCode; rw [hPl, if_neg (by decide), if_neg (by omega)]) (by unfold hDisp; rw [hPl, if_neg (by decide), if_neg (by omega), hN]; rfl) (by unfold hSkip; rw [if_neg (by omega)]) (by unfold hReads; rw [hPl, if_neg (by decide), if_neg (by omega), hN]; rfl))
              have hpl := Lib.hid (show ∀ W, Calls Tryz.prog 34 #[.int .u8 221, .int .u8 (gb xs (lead xs))] W fun e w' => e = .returned (.int .i64 3) ∧ W = w' from fun W => by have hh := rplane_221 (gb xs (lead xs)) W; rw [show hPlane 3 (gb xs (lead xs)) = 3 from hPl] at hh; exact hh)
              have hne := Lib.hid (show ∀ W, Calls Tryz.prog 35 #[.int .i64 3, .int .u8 (gb xs (lead xs))] W fun e w' => e = .returned (.bool true) ∧ W = w' from fun W => by have hh := drnear_any 3 (gb xs (lead xs)) (hbyte.out (lead xs)) W; rw [hN] at hh; exact hh)
              clear hN e203 e237 hPl
              go_wp2_with fail
              refine (hat.out (lead xs) _ (by first | rfl | omega) (by omega) _ (by repeat (first | with_reducible exact hbel | with_reducible refine Below.setCell ?_ (by show w.heap.size ≤ w.heap.size + 1; omega) _))).mono ?_
              rintro e w' ⟨rfl, rfl⟩
              go_wp2_with fail
              refine (hpl.out _).mono ?_
              rintro e w' ⟨rfl, rfl⟩
              go_wp2_with fail
              refine (hat.out (lead xs) _ (by first | rfl | omega) (by omega) _ (by repeat (first | with_reducible exact hbel | with_reducible refine Below.setCell ?_ (by show w.heap.size ≤ w.heap.size + 1; omega) _))).mono ?_
              rintro e w' ⟨rfl, rfl⟩
              go_wp2_with fail
              refine (hne.out _).mono ?_
              rintro e w' ⟨rfl, rfl⟩
              go_wp2_with fail
              refine (hat.out (lead xs + 1) _ (by first | rfl | omega) (by omega) _ (by repeat (first | with_reducible exact hbel | with_reducible refine Below.setCell ?_ (by show w.heap.size ≤ w.heap.size + 1; omega) _))).mono ?_
              rintro e w' ⟨rfl, rfl⟩
              rcases sizeM_cases 3 (gb xs (lead xs)) with hn | hn | hn
              · have hsz := Lib.hid (show ∀ W, Calls Tryz.prog 36 #[.int .i64 3, .int .u8 (gb xs (lead xs))] W fun e w' => e = .returned (.int .i64 0) ∧ W = w' from fun W => by have hh := rsize_any 3 (gb xs (lead xs)) (hbyte.out (lead xs)) W; rw [hn] at hh; exact hh)
                rw [hn, show immM (gb xs) (lead xs + 2) 0 = 0 from rfl] at fin0
                have hval := Lib.hid (opB_of (opOf xs) (lenOf xs) fin0.out.1 (lenOf_eq xs) ((lead xs + 2 : Nat) + 0) (by rw [fin0.out.2]; first | rfl | omega))
                clear hn
                go_wp2_with fail
                refine (hsz.out _).mono ?_
                rintro e w' ⟨rfl, rfl⟩
                have r9 := Lib.hid (show Row ((((((wr).setCell ⟨w.heap.size + 1, 0, none⟩ (.int .i64 3)).setCell ⟨w.heap.size + 1, 1, none⟩ (.int .u8 (gb xs (lead xs)))).setCell ⟨w.heap.size + 1, 2, none⟩ (.int .u8 (gb xs (lead xs + 1)))).setCell ⟨w.heap.size + 1, 4, none⟩ (.int .i64 ((lead xs : Int) + 1 + 1)))) (w.heap.size + 1) 39 #[.int .i64 3, .int .u8 (gb xs (lead xs)), .int .u8 (gb xs (lead xs + 1)), .int .u16 0, .int .i64 ((lead xs : Int) + 1 + 1), .int .i64 ss] from ((((r1h.out).set 0 (.int .i64 3)).set 1 (.int .u8 (gb xs (lead xs)))).set 2 (.int .u8 (gb xs (lead xs + 1)))).set 4 (.int .i64 ((lead xs : Int) + 1 + 1)))
                have hF9 := Lib.hid (show Fb w ((((((wr).setCell ⟨w.heap.size + 1, 0, none⟩ (.int .i64 3)).setCell ⟨w.heap.size + 1, 1, none⟩ (.int .u8 (gb xs (lead xs)))).setCell ⟨w.heap.size + 1, 2, none⟩ (.int .u8 (gb xs (lead xs + 1)))).setCell ⟨w.heap.size + 1, 4, none⟩ (.int .i64 ((lead xs : Int) + 1 + 1)))) from ⟨(((((hFh.out).set 0 (.int .i64 3)).set 1 (.int .u8 (gb xs (lead xs)))).set 2 (.int .u8 (gb xs (lead xs + 1)))).set 4 (.int .i64 ((lead xs : Int) + 1 + 1))).row, (((((hFh.out).set 0 (.int .i64 3)).set 1 (.int .u8 (gb xs (lead xs)))).set 2 (.int .u8 (gb xs (lead xs + 1)))).set 4 (.int .i64 ((lead xs : Int) + 1 + 1))).bel⟩)
                go_upto_region 34 with (fail)
                generalize hWX : (((((wr).setCell ⟨w.heap.size + 1, 0, none⟩ (.int .i64 3)).setCell ⟨w.heap.size + 1, 1, none⟩ (.int .u8 (gb xs (lead xs)))).setCell ⟨w.heap.size + 1, 2, none⟩ (.int .u8 (gb xs (lead xs + 1)))).setCell ⟨w.heap.size + 1, 4, none⟩ (.int .i64 ((lead xs : Int) + 1 + 1))) = W9 at *
                clear hWX c0 c1 c2 c3 c4 c5 f d0 d1 d2 d3 d4 d5 g hbel
                obtain ⟨⟨c0, c1, c2, c3, c4, c5⟩, f⟩ := row6 r9.out
                obtain ⟨⟨d0, d1, d2, d3, d4, d5⟩, g⟩ := row6 hF9.out.row
                have hbel := hF9.out.bel
                clear r9 hF9
                go_wp2
                all_goals
                  rename_i hgt
                  first
                  | (have hno := hdone.out.2 (by rw [fin0.out.2]; omega)
                     refine bodyPost_ret (v := .tuple #[opV 0 0 0 0 0 0, .bool false]) (by simp [results, Tryz.f18, go_sem, c0, c1, c2, c3, c4, c5, d0, d1, d2, d3, d4, d5]) rfl ?_
                     rw [hno.1, hno.2]
                     exact ⟨rfl, (by repeat (first | with_reducible exact hbel | with_reducible refine Below.drew ?_ | with_reducible refine Below.setCell ?_ (by first | exact Nat.le_refl _ | (show w.heap.size ≤ w.heap.size + 1; omega)) _))⟩)
                  | (have hyes := hdone.out.1 (by rw [fin0.out.2]; omega)
                     refine bodyPost_ret (v := .tuple #[opV 3 (gb xs (lead xs)) (gb xs (lead xs + 1)) (0) ((lead xs + 2 : Nat) + 0) (ss), .bool true]) (by simp [results, Tryz.f18, go_sem, c0, c1, c2, c3, c4, c5, d0, d1, d2, d3, d4, d5]; (try omega)) rfl ?_
                     rw [hyes.1, hyes.2]
                     rw [hval.out]
                     exact ⟨rfl, (by repeat (first | with_reducible exact hbel | with_reducible refine Below.drew ?_ | with_reducible refine Below.setCell ?_ (by first | exact Nat.le_refl _ | (show w.heap.size ≤ w.heap.size + 1; omega)) _))⟩)
              · have hsz := Lib.hid (show ∀ W, Calls Tryz.prog 36 #[.int .i64 3, .int .u8 (gb xs (lead xs))] W fun e w' => e = .returned (.int .i64 1) ∧ W = w' from fun W => by have hh := rsize_any 3 (gb xs (lead xs)) (hbyte.out (lead xs)) W; rw [hn] at hh; exact hh)
                rw [hn, show immM (gb xs) (lead xs + 2) 1 = gb xs (lead xs + 2) from rfl] at fin0
                have hval := Lib.hid (opB_of (opOf xs) (lenOf xs) fin0.out.1 (lenOf_eq xs) ((lead xs + 2 : Nat) + 1) (by rw [fin0.out.2]; first | rfl | omega))
                clear hn
                go_wp2_with fail
                refine (hsz.out _).mono ?_
                rintro e w' ⟨rfl, rfl⟩
                have bR := hbyte.out (lead xs + 2)
                have bR0 := bR.1
                have bR1 := bR.2
                go_wp2_with fail
                refine (hat.out (lead xs + 2) _ (by first | rfl | omega) (by omega) _ (by repeat (first | with_reducible exact hbel | with_reducible refine Below.setCell ?_ (by show w.heap.size ≤ w.heap.size + 1; omega) _))).mono ?_
                rintro e w' ⟨rfl, rfl⟩
                have r9 := Lib.hid (show Row (((((((wr).setCell ⟨w.heap.size + 1, 0, none⟩ (.int .i64 3)).setCell ⟨w.heap.size + 1, 1, none⟩ (.int .u8 (gb xs (lead xs)))).setCell ⟨w.heap.size + 1, 2, none⟩ (.int .u8 (gb xs (lead xs + 1)))).setCell ⟨w.heap.size + 1, 3, none⟩ (.int .u16 (gb xs (lead xs + 2)))).setCell ⟨w.heap.size + 1, 4, none⟩ (.int .i64 ((lead xs : Int) + 1 + 1 + 1)))) (w.heap.size + 1) 39 #[.int .i64 3, .int .u8 (gb xs (lead xs)), .int .u8 (gb xs (lead xs + 1)), .int .u16 (gb xs (lead xs + 2)), .int .i64 ((lead xs : Int) + 1 + 1 + 1), .int .i64 ss] from (((((r1h.out).set 0 (.int .i64 3)).set 1 (.int .u8 (gb xs (lead xs)))).set 2 (.int .u8 (gb xs (lead xs + 1)))).set 3 (.int .u16 (gb xs (lead xs + 2)))).set 4 (.int .i64 ((lead xs : Int) + 1 + 1 + 1)))
                have hF9 := Lib.hid (show Fb w (((((((wr).setCell ⟨w.heap.size + 1, 0, none⟩ (.int .i64 3)).setCell ⟨w.heap.size + 1, 1, none⟩ (.int .u8 (gb xs (lead xs)))).setCell ⟨w.heap.size + 1, 2, none⟩ (.int .u8 (gb xs (lead xs + 1)))).setCell ⟨w.heap.size + 1, 3, none⟩ (.int .u16 (gb xs (lead xs + 2)))).setCell ⟨w.heap.size + 1, 4, none⟩ (.int .i64 ((lead xs : Int) + 1 + 1 + 1)))) from ⟨((((((hFh.out).set 0 (.int .i64 3)).set 1 (.int .u8 (gb xs (lead xs)))).set 2 (.int .u8 (gb xs (lead xs + 1)))).set 3 (.int .u16 (gb xs (lead xs + 2)))).set 4 (.int .i64 ((lead xs : Int) + 1 + 1 + 1))).row, ((((((hFh.out).set 0 (.int .i64 3)).set 1 (.int .u8 (gb xs (lead xs)))).set 2 (.int .u8 (gb xs (lead xs + 1)))).set 3 (.int .u16 (gb xs (lead xs + 2)))).set 4 (.int .i64 ((lead xs : Int) + 1 + 1 + 1))).bel⟩)
                go_upto_region 34 with (fail)
                generalize hWX : ((((((wr).setCell ⟨w.heap.size + 1, 0, none⟩ (.int .i64 3)).setCell ⟨w.heap.size + 1, 1, none⟩ (.int .u8 (gb xs (lead xs)))).setCell ⟨w.heap.size + 1, 2, none⟩ (.int .u8 (gb xs (lead xs + 1)))).setCell ⟨w.heap.size + 1, 3, none⟩ (.int .u16 (gb xs (lead xs + 2)))).setCell ⟨w.heap.size + 1, 4, none⟩ (.int .i64 ((lead xs : Int) + 1 + 1 + 1))) = W9 at *
                clear hWX c0 c1 c2 c3 c4 c5 f d0 d1 d2 d3 d4 d5 g hbel
                obtain ⟨⟨c0, c1, c2, c3, c4, c5⟩, f⟩ := row6 r9.out
                obtain ⟨⟨d0, d1, d2, d3, d4, d5⟩, g⟩ := row6 hF9.out.row
                have hbel := hF9.out.bel
                clear r9 hF9
                go_wp2
                all_goals
                  rename_i hgt
                  first
                  | (have hno := hdone.out.2 (by rw [fin0.out.2]; omega)
                     refine bodyPost_ret (v := .tuple #[opV 0 0 0 0 0 0, .bool false]) (by simp [results, Tryz.f18, go_sem, c0, c1, c2, c3, c4, c5, d0, d1, d2, d3, d4, d5]) rfl ?_
                     rw [hno.1, hno.2]
                     exact ⟨rfl, (by repeat (first | with_reducible exact hbel | with_reducible refine Below.drew ?_ | with_reducible refine Below.setCell ?_ (by first | exact Nat.le_refl _ | (show w.heap.size ≤ w.heap.size + 1; omega)) _))⟩)
                  | (have hyes := hdone.out.1 (by rw [fin0.out.2]; omega)
                     refine bodyPost_ret (v := .tuple #[opV 3 (gb xs (lead xs)) (gb xs (lead xs + 1)) (gb xs (lead xs + 2)) ((lead xs + 2 : Nat) + 1) (ss), .bool true]) (by simp [results, Tryz.f18, go_sem, c0, c1, c2, c3, c4, c5, d0, d1, d2, d3, d4, d5]; (try omega)) rfl ?_
                     rw [hyes.1, hyes.2]
                     rw [hval.out]
                     exact ⟨rfl, (by repeat (first | with_reducible exact hbel | with_reducible refine Below.drew ?_ | with_reducible refine Below.setCell ?_ (by first | exact Nat.le_refl _ | (show w.heap.size ≤ w.heap.size + 1; omega)) _))⟩)
              · have hsz := Lib.hid (show ∀ W, Calls Tryz.prog 36 #[.int .i64 3, .int .u8 (gb xs (lead xs))] W fun e w' => e = .returned (.int .i64 2) ∧ W = w' from fun W => by have hh := rsize_any 3 (gb xs (lead xs)) (hbyte.out (lead xs)) W; rw [hn] at hh; exact hh)
                rw [hn, show immM (gb xs) (lead xs + 2) 2 = gb xs (lead xs + 2) + 256 * gb xs (lead xs + 2 + 1) from by unfold immM; rw [if_neg (by decide), if_neg (by decide)]; omega] at fin0
                have hval := Lib.hid (opB_of (opOf xs) (lenOf xs) fin0.out.1 (lenOf_eq xs) ((lead xs + 2 : Nat) + 2) (by rw [fin0.out.2]; first | rfl | omega))
                clear hn
                go_wp2_with fail
                refine (hsz.out _).mono ?_
                rintro e w' ⟨rfl, rfl⟩
                have bR := hbyte.out (lead xs + 2)
                have bR0 := bR.1
                have bR1 := bR.2
                have bS := hbyte.out (lead xs + 2 + 1)
                have bS0 := bS.1
                have bS1 := bS.2
                go_wp2_with fail
                refine (hat.out (lead xs + 2) _ (by first | rfl | omega) (by omega) _ (by repeat (first | with_reducible exact hbel | with_reducible refine Below.setCell ?_ (by show w.heap.size ≤ w.heap.size + 1; omega) _))).mono ?_
                rintro e w' ⟨rfl, rfl⟩
                have r4 := Lib.hid (show Row (((((wr).setCell ⟨w.heap.size + 1, 0, none⟩ (.int .i64 3)).setCell ⟨w.heap.size + 1, 1, none⟩ (.int .u8 (gb xs (lead xs)))).setCell ⟨w.heap.size + 1, 2, none⟩ (.int .u8 (gb xs (lead xs + 1)))).setCell ⟨w.heap.size + 1, 3, none⟩ (.int .u16 (gb xs (lead xs + 2)))) (w.heap.size + 1) 39 #[.int .i64 3, .int .u8 (gb xs (lead xs)), .int .u8 (gb xs (lead xs + 1)), .int .u16 (gb xs (lead xs + 2)), .int .i64 0, .int .i64 ss] from ((((r1h.out).set 0 (.int .i64 3)).set 1 (.int .u8 (gb xs (lead xs)))).set 2 (.int .u8 (gb xs (lead xs + 1)))).set 3 (.int .u16 (gb xs (lead xs + 2))))
                have hF4 := Lib.hid (((((hFh.out).set 0 (.int .i64 3)).set 1 (.int .u8 (gb xs (lead xs)))).set 2 (.int .u8 (gb xs (lead xs + 1)))).set 3 (.int .u16 (gb xs (lead xs + 2))))
                go_upto_region 32 with (fail)
                generalize hWX : (((((wr).setCell ⟨w.heap.size + 1, 0, none⟩ (.int .i64 3)).setCell ⟨w.heap.size + 1, 1, none⟩ (.int .u8 (gb xs (lead xs)))).setCell ⟨w.heap.size + 1, 2, none⟩ (.int .u8 (gb xs (lead xs + 1)))).setCell ⟨w.heap.size + 1, 3, none⟩ (.int .u16 (gb xs (lead xs + 2)))) = W4 at *
                clear hWX c0 c1 c2 c3 c4 c5 f d0 d1 d2 d3 d4 d5 g hbel hFh r1h
                obtain ⟨⟨c0, c1, c2, c3, c4, c5⟩, f⟩ := row6 r4.out
                obtain ⟨⟨d0, d1, d2, d3, d4, d5⟩, g⟩ := row6 hF4.out.row
                have hbel := hF4.out.bel
                have bdr := hbel.drew
                go_still_tail 10, (by kernel_rfl)
                still_call ((hat.out ((lead xs + 2) + 1) _ (by first | rfl | omega | (rw [IntKind.wrap_i64]; omega)) (by omega) W4.drew bdr).mono fun e w' h => ⟨h.1, h.2.symm⟩)
                repeat still_step
                refine wpStill_nil ?_
                change wpList _ _ _ _ _ W4.drew
                have r9 := Lib.hid (show Row ((((W4).setCell ⟨w.heap.size + 1, 3, none⟩ (.int .u16 (gb xs (lead xs + 2) + 256 * gb xs (lead xs + 2 + 1)))).setCell ⟨w.heap.size + 1, 4, none⟩ (.int .i64 ((lead xs : Int) + 1 + 1 + 2))).drew) (w.heap.size + 1) 39 #[.int .i64 3, .int .u8 (gb xs (lead xs)), .int .u8 (gb xs (lead xs + 1)), .int .u16 (gb xs (lead xs + 2) + 256 * gb xs (lead xs + 2 + 1)), .int .i64 ((lead xs : Int) + 1 + 1 + 2), .int .i64 ss] from ((r4.out).set 3 (.int .u16 (gb xs (lead xs + 2) + 256 * gb xs (lead xs + 2 + 1)))).set 4 (.int .i64 ((lead xs : Int) + 1 + 1 + 2)))
                have hF9 := Lib.hid (show Fb w ((((W4).setCell ⟨w.heap.size + 1, 3, none⟩ (.int .u16 (gb xs (lead xs + 2) + 256 * gb xs (lead xs + 2 + 1)))).setCell ⟨w.heap.size + 1, 4, none⟩ (.int .i64 ((lead xs : Int) + 1 + 1 + 2))).drew) from ⟨(((hF4.out).set 3 (.int .u16 (gb xs (lead xs + 2) + 256 * gb xs (lead xs + 2 + 1)))).set 4 (.int .i64 ((lead xs : Int) + 1 + 1 + 2))).row, (((hF4.out).set 3 (.int .u16 (gb xs (lead xs + 2) + 256 * gb xs (lead xs + 2 + 1)))).set 4 (.int .i64 ((lead xs : Int) + 1 + 1 + 2))).bel.drew⟩)
                go_upto_region 34 with (fail)
                generalize hWX : (((W4).setCell ⟨w.heap.size + 1, 3, none⟩ (.int .u16 (gb xs (lead xs + 2) + 256 * gb xs (lead xs + 2 + 1)))).setCell ⟨w.heap.size + 1, 4, none⟩ (.int .i64 ((lead xs : Int) + 1 + 1 + 2))).drew = W9 at *
                clear hWX c0 c1 c2 c3 c4 c5 f d0 d1 d2 d3 d4 d5 g hbel
                obtain ⟨⟨c0, c1, c2, c3, c4, c5⟩, f⟩ := row6 r9.out
                obtain ⟨⟨d0, d1, d2, d3, d4, d5⟩, g⟩ := row6 hF9.out.row
                have hbel := hF9.out.bel
                clear r9 hF9
                go_wp2
                all_goals
                  rename_i hgt
                  first
                  | (have hno := hdone.out.2 (by rw [fin0.out.2]; omega)
                     refine bodyPost_ret (v := .tuple #[opV 0 0 0 0 0 0, .bool false]) (by simp [results, Tryz.f18, go_sem, c0, c1, c2, c3, c4, c5, d0, d1, d2, d3, d4, d5]) rfl ?_
                     rw [hno.1, hno.2]
                     exact ⟨rfl, (by repeat (first | with_reducible exact hbel | with_reducible refine Below.drew ?_ | with_reducible refine Below.setCell ?_ (by first | exact Nat.le_refl _ | (show w.heap.size ≤ w.heap.size + 1; omega)) _))⟩)
                  | (have hyes := hdone.out.1 (by rw [fin0.out.2]; omega)
                     refine bodyPost_ret (v := .tuple #[opV 3 (gb xs (lead xs)) (gb xs (lead xs + 1)) (gb xs (lead xs + 2) + 256 * gb xs (lead xs + 2 + 1)) ((lead xs + 2 : Nat) + 2) (ss), .bool true]) (by simp [results, Tryz.f18, go_sem, c0, c1, c2, c3, c4, c5, d0, d1, d2, d3, d4, d5]; (try omega)) rfl ?_
                     rw [hyes.1, hyes.2]
                     rw [hval.out]
                     exact ⟨rfl, (by repeat (first | with_reducible exact hbel | with_reducible refine Below.drew ?_ | with_reducible refine Below.setCell ?_ (by first | exact Nat.le_refl _ | (show w.heap.size ≤ w.heap.size + 1; omega)) _))⟩)
      · go_wp2_with fail
        refine (hat.out (lead xs) _ (by first | rfl | omega) (by omega) _ hbel).mono ?_
        rintro e w' ⟨rfl, rfl⟩
        go_wp2_with fail
        refine (hat.out (lead xs) _ (by first | rfl | omega) (by omega) _ hbel).mono ?_
        rintro e w' ⟨rfl, rfl⟩
        by_cases e203 : gb xs (lead xs) = 203
        · have fin0 := Lib.hid (hk.out 4 ss (gb xs (lead xs)) 6 (gb xs (lead xs + 2)) (gb xs (lead xs + 1)) (ss) (lead xs + 3) h034 rfl rfl (by rw [e203]; rfl) (by unfold hCode; rw [e203]; rfl) (by unfold hDisp; rw [e203]; rfl) (by rw [e203]; rfl) (by unfold hReads; rw [e203]; rfl))
          have hpl := Lib.hid (show ∀ W, Calls Tryz.prog 34 #[.int .u8 253, .int .u8 (gb xs (lead xs))] W fun e w' => e = .returned (.int .i64 6) ∧ W = w' from fun W => by have hh := rplane_253 (gb xs (lead xs)) W; rw [show hPlane 4 (gb xs (lead xs)) = 6 from (by rw [e203]; rfl)] at hh; exact hh)
          clear e203
          go_wp2_with fail
          refine (hat.out (lead xs) _ (by first | rfl | omega) (by omega) _ (by repeat (first | with_reducible exact hbel | with_reducible refine Below.setCell ?_ (by show w.heap.size ≤ w.heap.size + 1; omega) _))).mono ?_
          rintro e w' ⟨rfl, rfl⟩
          go_wp2_with fail
          refine (hpl.out _).mono ?_
          rintro e w' ⟨rfl, rfl⟩
          go_wp2_with fail
          refine (hat.out (lead xs + 1) _ (by first | rfl | omega) (by omega) _ (by repeat (first | with_reducible exact hbel | with_reducible refine Below.setCell ?_ (by show w.heap.size ≤ w.heap.size + 1; omega) _))).mono ?_
          rintro e w' ⟨rfl, rfl⟩
          go_wp2_with fail
          refine (hat.out (lead xs + 2) _ (by first | rfl | omega) (by omega) _ (by repeat (first | with_reducible exact hbel | with_reducible refine Below.setCell ?_ (by show w.heap.size ≤ w.heap.size + 1; omega) _))).mono ?_
          rintro e w' ⟨rfl, rfl⟩
          have hn : sizeM 6 (gb xs (lead xs + 2)) = 0 := rfl
          have hsz := Lib.hid (show ∀ W, Calls Tryz.prog 36 #[.int .i64 6, .int .u8 (gb xs (lead xs + 2))] W fun e w' => e = .returned (.int .i64 0) ∧ W = w' from fun W => by have hh := rsize_any 6 (gb xs (lead xs + 2)) (hbyte.out (lead xs + 2)) W; rw [hn] at hh; exact hh)
          rw [hn, show immM (gb xs) (lead xs + 3) 0 = 0 from rfl] at fin0
          have hval := Lib.hid (opB_of (opOf xs) (lenOf xs) fin0.out.1 (lenOf_eq xs) ((lead xs + 3 : Nat) + 0) (by rw [fin0.out.2]; first | rfl | omega))
          clear hn
          go_wp2_with fail
          refine (hsz.out _).mono ?_
          rintro e w' ⟨rfl, rfl⟩
          have r9 := Lib.hid (show Row ((((((wr).setCell ⟨w.heap.size + 1, 0, none⟩ (.int .i64 6)).setCell ⟨w.heap.size + 1, 2, none⟩ (.int .u8 (gb xs (lead xs + 1)))).setCell ⟨w.heap.size + 1, 1, none⟩ (.int .u8 (gb xs (lead xs + 2)))).setCell ⟨w.heap.size + 1, 4, none⟩ (.int .i64 ((lead xs : Int) + 3)))) (w.heap.size + 1) 39 #[.int .i64 6, .int .u8 (gb xs (lead xs + 2)), .int .u8 (gb xs (lead xs + 1)), .int .u16 0, .int .i64 ((lead xs : Int) + 3), .int .i64 ss] from ((((r1h.out).set 0 (.int .i64 6)).set 2 (.int .u8 (gb xs (lead xs + 1)))).set 1 (.int .u8 (gb xs (lead xs + 2)))).set 4 (.int .i64 ((lead xs : Int) + 3)))
          have hF9 := Lib.hid (show Fb w ((((((wr).setCell ⟨w.heap.size + 1, 0, none⟩ (.int .i64 6)).setCell ⟨w.heap.size + 1, 2, none⟩ (.int .u8 (gb xs (lead xs + 1)))).setCell ⟨w.heap.size + 1, 1, none⟩ (.int .u8 (gb xs (lead xs + 2)))).setCell ⟨w.heap.size + 1, 4, none⟩ (.int .i64 ((lead xs : Int) + 3)))) from ⟨(((((hFh.out).set 0 (.int .i64 6)).set 2 (.int .u8 (gb xs (lead xs + 1)))).set 1 (.int .u8 (gb xs (lead xs + 2)))).set 4 (.int .i64 ((lead xs : Int) + 3))).row, (((((hFh.out).set 0 (.int .i64 6)).set 2 (.int .u8 (gb xs (lead xs + 1)))).set 1 (.int .u8 (gb xs (lead xs + 2)))).set 4 (.int .i64 ((lead xs : Int) + 3))).bel⟩)
          go_upto_region 34 with (fail)
          generalize hWX : (((((wr).setCell ⟨w.heap.size + 1, 0, none⟩ (.int .i64 6)).setCell ⟨w.heap.size + 1, 2, none⟩ (.int .u8 (gb xs (lead xs + 1)))).setCell ⟨w.heap.size + 1, 1, none⟩ (.int .u8 (gb xs (lead xs + 2)))).setCell ⟨w.heap.size + 1, 4, none⟩ (.int .i64 ((lead xs : Int) + 3))) = W9 at *
          clear hWX c0 c1 c2 c3 c4 c5 f d0 d1 d2 d3 d4 d5 g hbel
          obtain ⟨⟨c0, c1, c2, c3, c4, c5⟩, f⟩ := row6 r9.out
          obtain ⟨⟨d0, d1, d2, d3, d4, d5⟩, g⟩ := row6 hF9.out.row
          have hbel := hF9.out.bel
          clear r9 hF9
          go_wp2
          all_goals
            rename_i hgt
            first
            | (have hno := hdone.out.2 (by rw [fin0.out.2]; omega)
               refine bodyPost_ret (v := .tuple #[opV 0 0 0 0 0 0, .bool false]) (by simp [results, Tryz.f18, go_sem, c0, c1, c2, c3, c4, c5, d0, d1, d2, d3, d4, d5]) rfl ?_
               rw [hno.1, hno.2]
               exact ⟨rfl, (by repeat (first | with_reducible exact hbel | with_reducible refine Below.drew ?_ | with_reducible refine Below.setCell ?_ (by first | exact Nat.le_refl _ | (show w.heap.size ≤ w.heap.size + 1; omega)) _))⟩)
            | (have hyes := hdone.out.1 (by rw [fin0.out.2]; omega)
               refine bodyPost_ret (v := .tuple #[opV 6 (gb xs (lead xs + 2)) (gb xs (lead xs + 1)) (0) ((lead xs + 3 : Nat) + 0) (ss), .bool true]) (by simp [results, Tryz.f18, go_sem, c0, c1, c2, c3, c4, c5, d0, d1, d2, d3, d4, d5]; (try omega)) rfl ?_
               rw [hyes.1, hyes.2]
               rw [hval.out]
               exact ⟨rfl, (by repeat (first | with_reducible exact hbel | with_reducible refine Below.drew ?_ | with_reducible refine Below.setCell ?_ (by first | exact Nat.le_refl _ | (show w.heap.size ≤ w.heap.size + 1; omega)) _))⟩)
        · by_cases e237 : gb xs (lead xs) = 237
          · have fin0 := Lib.hid (hk.out 4 ss (gb xs (lead xs)) 2 (gb xs (lead xs + 1)) (0) (ss + 1) (lead xs + 2) h034 rfl rfl (by rw [e237]; rfl) (by unfold hCode; rw [e237]; rfl) (by unfold hDisp; rw [e237]; rfl) (by rw [e237]; rfl) (by unfold hReads; rw [e237]; rfl))
            have hpl := Lib.hid (show ∀ W, Calls Tryz.prog 34 #[.int .u8 253, .int .u8 (gb xs (lead xs))] W fun e w' => e = .returned (.int .i64 2) ∧ W = w' from fun W => by have hh := rplane_253 (gb xs (lead xs)) W; rw [show hPlane 4 (gb xs (lead xs)) = 2 from (by rw [e237]; rfl)] at hh; exact hh)
            clear e203 e237
            go_wp2_with fail
            refine (hat.out (lead xs) _ (by first | rfl | omega) (by omega) _ (by repeat (first | with_reducible exact hbel | with_reducible refine Below.setCell ?_ (by show w.heap.size ≤ w.heap.size + 1; omega) _))).mono ?_
            rintro e w' ⟨rfl, rfl⟩
            go_wp2_with fail
            refine (hpl.out _).mono ?_
            rintro e w' ⟨rfl, rfl⟩
            go_wp2_with fail
            refine (hat.out (lead xs + 1) _ (by first | rfl | omega) (by omega) _ (by repeat (first | with_reducible exact hbel | with_reducible refine Below.setCell ?_ (by show w.heap.size ≤ w.heap.size + 1; omega) _))).mono ?_
            rintro e w' ⟨rfl, rfl⟩
            rcases sizeM_two (gb xs (lead xs + 1)) with hn | hn
            · have hsz := Lib.hid (show ∀ W, Calls Tryz.prog 36 #[.int .i64 2, .int .u8 (gb xs (lead xs + 1))] W fun e w' => e = .returned (.int .i64 0) ∧ W = w' from fun W => by have hh := rsize_any 2 (gb xs (lead xs + 1)) (hbyte.out (lead xs + 1)) W; rw [hn] at hh; exact hh)
              rw [hn, show immM (gb xs) (lead xs + 2) 0 = 0 from rfl] at fin0
              have hval := Lib.hid (opB_of (opOf xs) (lenOf xs) fin0.out.1 (lenOf_eq xs) ((lead xs + 2 : Nat) + 0) (by rw [fin0.out.2]; first | rfl | omega))
              clear hn
              go_wp2_with fail
              refine (hsz.out _).mono ?_
              rintro e w' ⟨rfl, rfl⟩
              have r9 := Lib.hid (show Row ((((((wr).setCell ⟨w.heap.size + 1, 0, none⟩ (.int .i64 2)).setCell ⟨w.heap.size + 1, 5, none⟩ (.int .i64 (ss + 1))).setCell ⟨w.heap.size + 1, 1, none⟩ (.int .u8 (gb xs (lead xs + 1)))).setCell ⟨w.heap.size + 1, 4, none⟩ (.int .i64 ((lead xs : Int) + 2)))) (w.heap.size + 1) 39 #[.int .i64 2, .int .u8 (gb xs (lead xs + 1)), .int .u8 0, .int .u16 0, .int .i64 ((lead xs : Int) + 2), .int .i64 (ss + 1)] from ((((r1h.out).set 0 (.int .i64 2)).set 5 (.int .i64 (ss + 1))).set 1 (.int .u8 (gb xs (lead xs + 1)))).set 4 (.int .i64 ((lead xs : Int) + 2)))
              have hF9 := Lib.hid (show Fb w ((((((wr).setCell ⟨w.heap.size + 1, 0, none⟩ (.int .i64 2)).setCell ⟨w.heap.size + 1, 5, none⟩ (.int .i64 (ss + 1))).setCell ⟨w.heap.size + 1, 1, none⟩ (.int .u8 (gb xs (lead xs + 1)))).setCell ⟨w.heap.size + 1, 4, none⟩ (.int .i64 ((lead xs : Int) + 2)))) from ⟨(((((hFh.out).set 0 (.int .i64 2)).set 5 (.int .i64 (ss + 1))).set 1 (.int .u8 (gb xs (lead xs + 1)))).set 4 (.int .i64 ((lead xs : Int) + 2))).row, (((((hFh.out).set 0 (.int .i64 2)).set 5 (.int .i64 (ss + 1))).set 1 (.int .u8 (gb xs (lead xs + 1)))).set 4 (.int .i64 ((lead xs : Int) + 2))).bel⟩)
              go_upto_region 34 with (fail)
              generalize hWX : (((((wr).setCell ⟨w.heap.size + 1, 0, none⟩ (.int .i64 2)).setCell ⟨w.heap.size + 1, 5, none⟩ (.int .i64 (ss + 1))).setCell ⟨w.heap.size + 1, 1, none⟩ (.int .u8 (gb xs (lead xs + 1)))).setCell ⟨w.heap.size + 1, 4, none⟩ (.int .i64 ((lead xs : Int) + 2))) = W9 at *
              clear hWX c0 c1 c2 c3 c4 c5 f d0 d1 d2 d3 d4 d5 g hbel
              obtain ⟨⟨c0, c1, c2, c3, c4, c5⟩, f⟩ := row6 r9.out
              obtain ⟨⟨d0, d1, d2, d3, d4, d5⟩, g⟩ := row6 hF9.out.row
              have hbel := hF9.out.bel
              clear r9 hF9
              go_wp2
              all_goals
                rename_i hgt
                first
                | (have hno := hdone.out.2 (by rw [fin0.out.2]; omega)
                   refine bodyPost_ret (v := .tuple #[opV 0 0 0 0 0 0, .bool false]) (by simp [results, Tryz.f18, go_sem, c0, c1, c2, c3, c4, c5, d0, d1, d2, d3, d4, d5]) rfl ?_
                   rw [hno.1, hno.2]
                   exact ⟨rfl, (by repeat (first | with_reducible exact hbel | with_reducible refine Below.drew ?_ | with_reducible refine Below.setCell ?_ (by first | exact Nat.le_refl _ | (show w.heap.size ≤ w.heap.size + 1; omega)) _))⟩)
                | (have hyes := hdone.out.1 (by rw [fin0.out.2]; omega)
                   refine bodyPost_ret (v := .tuple #[opV 2 (gb xs (lead xs + 1)) (0) (0) ((lead xs + 2 : Nat) + 0) (ss + 1), .bool true]) (by simp [results, Tryz.f18, go_sem, c0, c1, c2, c3, c4, c5, d0, d1, d2, d3, d4, d5]; (try omega)) rfl ?_
                   rw [hyes.1, hyes.2]
                   rw [hval.out]
                   exact ⟨rfl, (by repeat (first | with_reducible exact hbel | with_reducible refine Below.drew ?_ | with_reducible refine Below.setCell ?_ (by first | exact Nat.le_refl _ | (show w.heap.size ≤ w.heap.size + 1; omega)) _))⟩)
            · have hsz := Lib.hid (show ∀ W, Calls Tryz.prog 36 #[.int .i64 2, .int .u8 (gb xs (lead xs + 1))] W fun e w' => e = .returned (.int .i64 2) ∧ W = w' from fun W => by have hh := rsize_any 2 (gb xs (lead xs + 1)) (hbyte.out (lead xs + 1)) W; rw [hn] at hh; exact hh)
              rw [hn, show immM (gb xs) (lead xs + 2) 2 = gb xs (lead xs + 2) + 256 * gb xs (lead xs + 2 + 1) from by unfold immM; rw [if_neg (by decide), if_neg (by decide)]; omega] at fin0
              have hval := Lib.hid (opB_of (opOf xs) (lenOf xs) fin0.out.1 (lenOf_eq xs) ((lead xs + 2 : Nat) + 2) (by rw [fin0.out.2]; first | rfl | omega))
              clear hn
              go_wp2_with fail
              refine (hsz.out _).mono ?_
              rintro e w' ⟨rfl, rfl⟩
              have bR := hbyte.out (lead xs + 2)
              have bR0 := bR.1
              have bR1 := bR.2
              have bS := hbyte.out (lead xs + 2 + 1)
              have bS0 := bS.1
              have bS1 := bS.2
              go_wp2_with fail
              refine (hat.out (lead xs + 2) _ (by first | rfl | omega) (by omega) _ (by repeat (first | with_reducible exact hbel | with_reducible refine Below.setCell ?_ (by show w.heap.size ≤ w.heap.size + 1; omega) _))).mono ?_
              rintro e w' ⟨rfl, rfl⟩
              have r4 := Lib.hid (show Row (((((wr).setCell ⟨w.heap.size + 1, 0, none⟩ (.int .i64 2)).setCell ⟨w.heap.size + 1, 5, none⟩ (.int .i64 (ss + 1))).setCell ⟨w.heap.size + 1, 1, none⟩ (.int .u8 (gb xs (lead xs + 1)))).setCell ⟨w.heap.size + 1, 3, none⟩ (.int .u16 (gb xs (lead xs + 2)))) (w.heap.size + 1) 39 #[.int .i64 2, .int .u8 (gb xs (lead xs + 1)), .int .u8 0, .int .u16 (gb xs (lead xs + 2)), .int .i64 0, .int .i64 (ss + 1)] from ((((r1h.out).set 0 (.int .i64 2)).set 5 (.int .i64 (ss + 1))).set 1 (.int .u8 (gb xs (lead xs + 1)))).set 3 (.int .u16 (gb xs (lead xs + 2))))
              have hF4 := Lib.hid (((((hFh.out).set 0 (.int .i64 2)).set 5 (.int .i64 (ss + 1))).set 1 (.int .u8 (gb xs (lead xs + 1)))).set 3 (.int .u16 (gb xs (lead xs + 2))))
              go_upto_region 32 with (fail)
              generalize hWX : (((((wr).setCell ⟨w.heap.size + 1, 0, none⟩ (.int .i64 2)).setCell ⟨w.heap.size + 1, 5, none⟩ (.int .i64 (ss + 1))).setCell ⟨w.heap.size + 1, 1, none⟩ (.int .u8 (gb xs (lead xs + 1)))).setCell ⟨w.heap.size + 1, 3, none⟩ (.int .u16 (gb xs (lead xs + 2)))) = W4 at *
              clear hWX c0 c1 c2 c3 c4 c5 f d0 d1 d2 d3 d4 d5 g hbel hFh r1h
              obtain ⟨⟨c0, c1, c2, c3, c4, c5⟩, f⟩ := row6 r4.out
              obtain ⟨⟨d0, d1, d2, d3, d4, d5⟩, g⟩ := row6 hF4.out.row
              have hbel := hF4.out.bel
              have bdr := hbel.drew
              go_still_tail 10, (by kernel_rfl)
              still_call ((hat.out ((lead xs + 2) + 1) _ (by first | rfl | omega | (rw [IntKind.wrap_i64]; omega)) (by omega) W4.drew bdr).mono fun e w' h => ⟨h.1, h.2.symm⟩)
              repeat still_step
              refine wpStill_nil ?_
              change wpList _ _ _ _ _ W4.drew
              have r9 := Lib.hid (show Row ((((W4).setCell ⟨w.heap.size + 1, 3, none⟩ (.int .u16 (gb xs (lead xs + 2) + 256 * gb xs (lead xs + 2 + 1)))).setCell ⟨w.heap.size + 1, 4, none⟩ (.int .i64 ((lead xs : Int) + 2 + 2))).drew) (w.heap.size + 1) 39 #[.int .i64 2, .int .u8 (gb xs (lead xs + 1)), .int .u8 0, .int .u16 (gb xs (lead xs + 2) + 256 * gb xs (lead xs + 2 + 1)), .int .i64 ((lead xs : Int) + 2 + 2), .int .i64 (ss + 1)] from ((r4.out).set 3 (.int .u16 (gb xs (lead xs + 2) + 256 * gb xs (lead xs + 2 + 1)))).set 4 (.int .i64 ((lead xs : Int) + 2 + 2)))
              have hF9 := Lib.hid (show Fb w ((((W4).setCell ⟨w.heap.size + 1, 3, none⟩ (.int .u16 (gb xs (lead xs + 2) + 256 * gb xs (lead xs + 2 + 1)))).setCell ⟨w.heap.size + 1, 4, none⟩ (.int .i64 ((lead xs : Int) + 2 + 2))).drew) from ⟨(((hF4.out).set 3 (.int .u16 (gb xs (lead xs + 2) + 256 * gb xs (lead xs + 2 + 1)))).set 4 (.int .i64 ((lead xs : Int) + 2 + 2))).row, (((hF4.out).set 3 (.int .u16 (gb xs (lead xs + 2) + 256 * gb xs (lead xs + 2 + 1)))).set 4 (.int .i64 ((lead xs : Int) + 2 + 2))).bel.drew⟩)
              go_upto_region 34 with (fail)
              generalize hWX : (((W4).setCell ⟨w.heap.size + 1, 3, none⟩ (.int .u16 (gb xs (lead xs + 2) + 256 * gb xs (lead xs + 2 + 1)))).setCell ⟨w.heap.size + 1, 4, none⟩ (.int .i64 ((lead xs : Int) + 2 + 2))).drew = W9 at *
              clear hWX c0 c1 c2 c3 c4 c5 f d0 d1 d2 d3 d4 d5 g hbel
              obtain ⟨⟨c0, c1, c2, c3, c4, c5⟩, f⟩ := row6 r9.out
              obtain ⟨⟨d0, d1, d2, d3, d4, d5⟩, g⟩ := row6 hF9.out.row
              have hbel := hF9.out.bel
              clear r9 hF9
              go_wp2
              all_goals
                rename_i hgt
                first
                | (have hno := hdone.out.2 (by rw [fin0.out.2]; omega)
                   refine bodyPost_ret (v := .tuple #[opV 0 0 0 0 0 0, .bool false]) (by simp [results, Tryz.f18, go_sem, c0, c1, c2, c3, c4, c5, d0, d1, d2, d3, d4, d5]) rfl ?_
                   rw [hno.1, hno.2]
                   exact ⟨rfl, (by repeat (first | with_reducible exact hbel | with_reducible refine Below.drew ?_ | with_reducible refine Below.setCell ?_ (by first | exact Nat.le_refl _ | (show w.heap.size ≤ w.heap.size + 1; omega)) _))⟩)
                | (have hyes := hdone.out.1 (by rw [fin0.out.2]; omega)
                   refine bodyPost_ret (v := .tuple #[opV 2 (gb xs (lead xs + 1)) (0) (gb xs (lead xs + 2) + 256 * gb xs (lead xs + 2 + 1)) ((lead xs + 2 : Nat) + 2) (ss + 1), .bool true]) (by simp [results, Tryz.f18, go_sem, c0, c1, c2, c3, c4, c5, d0, d1, d2, d3, d4, d5]; (try omega)) rfl ?_
                   rw [hyes.1, hyes.2]
                   rw [hval.out]
                   exact ⟨rfl, (by repeat (first | with_reducible exact hbel | with_reducible refine Below.drew ?_ | with_reducible refine Below.setCell ?_ (by first | exact Nat.le_refl _ | (show w.heap.size ≤ w.heap.size + 1; omega)) _))⟩)
          · cases hN : nearM 4 (gb xs (lead xs))
            · have hPl : hPlane 4 (gb xs (lead xs)) = 4 := by unfold hPlane; rw [if_neg e203, if_neg e237]
              have fin0 := Lib.hid (hk.out 4 ss (gb xs (lead xs)) 4 (gb xs (lead xs)) (0) (ss) (lead xs + 1) h034 rfl rfl hPl (by unfold hCode; rw [hPl, if_neg (by decide), if_neg (by omega)]) (by unfold hDisp; rw [hPl, if_neg (by decide), if_neg (by omega), hN]; rfl) (by unfold hSkip; rw [if_neg (by omega)]) (by unfold hReads; rw [hPl, if_neg (by decide), if_neg (by omega), hN]; rfl))
              have hpl := Lib.hid (show ∀ W, Calls Tryz.prog 34 #[.int .u8 253, .int .u8 (gb xs (lead xs))] W fun e w' => e = .returned (.int .i64 4) ∧ W = w' from fun W => by have hh := rplane_253 (gb xs (lead xs)) W; rw [show hPlane 4 (gb xs (lead xs)) = 4 from hPl] at hh; exact hh)
              have hne := Lib.hid (show ∀ W, Calls Tryz.prog 35 #[.int .i64 4, .int .u8 (gb xs (lead xs))] W fun e w' => e = .returned (.bool false) ∧ W = w' from fun W => by have hh := drnear_any 4 (gb xs (lead xs)) (hbyte.out (lead xs)) W; rw [hN] at hh; exact hh)
              clear hN e203 e237 hPl
              go_wp2_with fail
              refine (hat.out (lead xs) _ (by first | rfl | omega) (by omega) _ (by repeat (first | with_reducible exact hbel | with_reducible refine Below.setCell ?_ (by show w.heap.size ≤ w.heap.size + 1; omega) _))).mono ?_
              rintro e w' ⟨rfl, rfl⟩
              go_wp2_with fail
              refine (hpl.out _).mono ?_
              rintro e w' ⟨rfl, rfl⟩
              go_wp2_with fail
              refine (hat.out (lead xs) _ (by first | rfl | omega) (by omega) _ (by repeat (first | with_reducible exact hbel | with_reducible refine Below.setCell ?_ (by show w.heap.size ≤ w.heap.size + 1; omega) _))).mono ?_
              rintro e w' ⟨rfl, rfl⟩
              go_wp2_with fail
              refine (hne.out _).mono ?_
              rintro e w' ⟨rfl, rfl⟩
              rcases sizeM_cases 4 (gb xs (lead xs)) with hn | hn | hn
              · have hsz := Lib.hid (show ∀ W, Calls Tryz.prog 36 #[.int .i64 4, .int .u8 (gb xs (lead xs))] W fun e w' => e = .returned (.int .i64 0) ∧ W = w' from fun W => by have hh := rsize_any 4 (gb xs (lead xs)) (hbyte.out (lead xs)) W; rw [hn] at hh; exact hh)
                rw [hn, show immM (gb xs) (lead xs + 1) 0 = 0 from rfl] at fin0
                have hval := Lib.hid (opB_of (opOf xs) (lenOf xs) fin0.out.1 (lenOf_eq xs) ((lead xs + 1 : Nat) + 0) (by rw [fin0.out.2]; first | rfl | omega))
                clear hn
                go_wp2_with fail
                refine (hsz.out _).mono ?_
                rintro e w' ⟨rfl, rfl⟩
                have r9 := Lib.hid (show Row (((((wr).setCell ⟨w.heap.size + 1, 0, none⟩ (.int .i64 4)).setCell ⟨w.heap.size + 1, 1, none⟩ (.int .u8 (gb xs (lead xs)))).setCell ⟨w.heap.size + 1, 4, none⟩ (.int .i64 ((lead xs : Int) + 1)))) (w.heap.size + 1) 39 #[.int .i64 4, .int .u8 (gb xs (lead xs)), .int .u8 0, .int .u16 0, .int .i64 ((lead xs : Int) + 1), .int .i64 ss] from (((r1h.out).set 0 (.int .i64 4)).set 1 (.int .u8 (gb xs (lead xs)))).set 4 (.int .i64 ((lead xs : Int) + 1)))
                have hF9 := Lib.hid (show Fb w (((((wr).setCell ⟨w.heap.size + 1, 0, none⟩ (.int .i64 4)).setCell ⟨w.heap.size + 1, 1, none⟩ (.int .u8 (gb xs (lead xs)))).setCell ⟨w.heap.size + 1, 4, none⟩ (.int .i64 ((lead xs : Int) + 1)))) from ⟨((((hFh.out).set 0 (.int .i64 4)).set 1 (.int .u8 (gb xs (lead xs)))).set 4 (.int .i64 ((lead xs : Int) + 1))).row, ((((hFh.out).set 0 (.int .i64 4)).set 1 (.int .u8 (gb xs (lead xs)))).set 4 (.int .i64 ((lead xs : Int) + 1))).bel⟩)
                go_upto_region 34 with (fail)
                generalize hWX : ((((wr).setCell ⟨w.heap.size + 1, 0, none⟩ (.int .i64 4)).setCell ⟨w.heap.size + 1, 1, none⟩ (.int .u8 (gb xs (lead xs)))).setCell ⟨w.heap.size + 1, 4, none⟩ (.int .i64 ((lead xs : Int) + 1))) = W9 at *
                clear hWX c0 c1 c2 c3 c4 c5 f d0 d1 d2 d3 d4 d5 g hbel
                obtain ⟨⟨c0, c1, c2, c3, c4, c5⟩, f⟩ := row6 r9.out
                obtain ⟨⟨d0, d1, d2, d3, d4, d5⟩, g⟩ := row6 hF9.out.row
                have hbel := hF9.out.bel
                clear r9 hF9
                go_wp2
                all_goals
                  rename_i hgt
                  first
                  | (have hno := hdone.out.2 (by rw [fin0.out.2]; omega)
                     refine bodyPost_ret (v := .tuple #[opV 0 0 0 0 0 0, .bool false]) (by simp [results, Tryz.f18, go_sem, c0, c1, c2, c3, c4, c5, d0, d1, d2, d3, d4, d5]) rfl ?_
                     rw [hno.1, hno.2]
                     exact ⟨rfl, (by repeat (first | with_reducible exact hbel | with_reducible refine Below.drew ?_ | with_reducible refine Below.setCell ?_ (by first | exact Nat.le_refl _ | (show w.heap.size ≤ w.heap.size + 1; omega)) _))⟩)
                  | (have hyes := hdone.out.1 (by rw [fin0.out.2]; omega)
                     refine bodyPost_ret (v := .tuple #[opV 4 (gb xs (lead xs)) (0) (0) ((lead xs + 1 : Nat) + 0) (ss), .bool true]) (by simp [results, Tryz.f18, go_sem, c0, c1, c2, c3, c4, c5, d0, d1, d2, d3, d4, d5]; (try omega)) rfl ?_
                     rw [hyes.1, hyes.2]
                     rw [hval.out]
                     exact ⟨rfl, (by repeat (first | with_reducible exact hbel | with_reducible refine Below.drew ?_ | with_reducible refine Below.setCell ?_ (by first | exact Nat.le_refl _ | (show w.heap.size ≤ w.heap.size + 1; omega)) _))⟩)
              · have hsz := Lib.hid (show ∀ W, Calls Tryz.prog 36 #[.int .i64 4, .int .u8 (gb xs (lead xs))] W fun e w' => e = .returned (.int .i64 1) ∧ W = w' from fun W => by have hh := rsize_any 4 (gb xs (lead xs)) (hbyte.out (lead xs)) W; rw [hn] at hh; exact hh)
                rw [hn, show immM (gb xs) (lead xs + 1) 1 = gb xs (lead xs + 1) from rfl] at fin0
                have hval := Lib.hid (opB_of (opOf xs) (lenOf xs) fin0.out.1 (lenOf_eq xs) ((lead xs + 1 : Nat) + 1) (by rw [fin0.out.2]; first | rfl | omega))
                clear hn
                go_wp2_with fail
                refine (hsz.out _).mono ?_
                rintro e w' ⟨rfl, rfl⟩
                have bR := hbyte.out (lead xs + 1)
                have bR0 := bR.1
                have bR1 := bR.2
                go_wp2_with fail
                refine (hat.out (lead xs + 1) _ (by first | rfl | omega) (by omega) _ (by repeat (first | with_reducible exact hbel | with_reducible refine Below.setCell ?_ (by show w.heap.size ≤ w.heap.size + 1; omega) _))).mono ?_
                rintro e w' ⟨rfl, rfl⟩
                have r9 := Lib.hid (show Row ((((((wr).setCell ⟨w.heap.size + 1, 0, none⟩ (.int .i64 4)).setCell ⟨w.heap.size + 1, 1, none⟩ (.int .u8 (gb xs (lead xs)))).setCell ⟨w.heap.size + 1, 3, none⟩ (.int .u16 (gb xs (lead xs + 1)))).setCell ⟨w.heap.size + 1, 4, none⟩ (.int .i64 ((lead xs : Int) + 1 + 1)))) (w.heap.size + 1) 39 #[.int .i64 4, .int .u8 (gb xs (lead xs)), .int .u8 0, .int .u16 (gb xs (lead xs + 1)), .int .i64 ((lead xs : Int) + 1 + 1), .int .i64 ss] from ((((r1h.out).set 0 (.int .i64 4)).set 1 (.int .u8 (gb xs (lead xs)))).set 3 (.int .u16 (gb xs (lead xs + 1)))).set 4 (.int .i64 ((lead xs : Int) + 1 + 1)))
                have hF9 := Lib.hid (show Fb w ((((((wr).setCell ⟨w.heap.size + 1, 0, none⟩ (.int .i64 4)).setCell ⟨w.heap.size + 1, 1, none⟩ (.int .u8 (gb xs (lead xs)))).setCell ⟨w.heap.size + 1, 3, none⟩ (.int .u16 (gb xs (lead xs + 1)))).setCell ⟨w.heap.size + 1, 4, none⟩ (.int .i64 ((lead xs : Int) + 1 + 1)))) from ⟨(((((hFh.out).set 0 (.int .i64 4)).set 1 (.int .u8 (gb xs (lead xs)))).set 3 (.int .u16 (gb xs (lead xs + 1)))).set 4 (.int .i64 ((lead xs : Int) + 1 + 1))).row, (((((hFh.out).set 0 (.int .i64 4)).set 1 (.int .u8 (gb xs (lead xs)))).set 3 (.int .u16 (gb xs (lead xs + 1)))).set 4 (.int .i64 ((lead xs : Int) + 1 + 1))).bel⟩)
                go_upto_region 34 with (fail)
                generalize hWX : (((((wr).setCell ⟨w.heap.size + 1, 0, none⟩ (.int .i64 4)).setCell ⟨w.heap.size + 1, 1, none⟩ (.int .u8 (gb xs (lead xs)))).setCell ⟨w.heap.size + 1, 3, none⟩ (.int .u16 (gb xs (lead xs + 1)))).setCell ⟨w.heap.size + 1, 4, none⟩ (.int .i64 ((lead xs : Int) + 1 + 1))) = W9 at *
                clear hWX c0 c1 c2 c3 c4 c5 f d0 d1 d2 d3 d4 d5 g hbel
                obtain ⟨⟨c0, c1, c2, c3, c4, c5⟩, f⟩ := row6 r9.out
                obtain ⟨⟨d0, d1, d2, d3, d4, d5⟩, g⟩ := row6 hF9.out.row
                have hbel := hF9.out.bel
                clear r9 hF9
                go_wp2
                all_goals
                  rename_i hgt
                  first
                  | (have hno := hdone.out.2 (by rw [fin0.out.2]; omega)
                     refine bodyPost_ret (v := .tuple #[opV 0 0 0 0 0 0, .bool false]) (by simp [results, Tryz.f18, go_sem, c0, c1, c2, c3, c4, c5, d0, d1, d2, d3, d4, d5]) rfl ?_
                     rw [hno.1, hno.2]
                     exact ⟨rfl, (by repeat (first | with_reducible exact hbel | with_reducible refine Below.drew ?_ | with_reducible refine Below.setCell ?_ (by first | exact Nat.le_refl _ | (show w.heap.size ≤ w.heap.size + 1; omega)) _))⟩)
                  | (have hyes := hdone.out.1 (by rw [fin0.out.2]; omega)
                     refine bodyPost_ret (v := .tuple #[opV 4 (gb xs (lead xs)) (0) (gb xs (lead xs + 1)) ((lead xs + 1 : Nat) + 1) (ss), .bool true]) (by simp [results, Tryz.f18, go_sem, c0, c1, c2, c3, c4, c5, d0, d1, d2, d3, d4, d5]; (try omega)) rfl ?_
                     rw [hyes.1, hyes.2]
                     rw [hval.out]
                     exact ⟨rfl, (by repeat (first | with_reducible exact hbel | with_reducible refine Below.drew ?_ | with_reducible refine Below.setCell ?_ (by first | exact Nat.le_refl _ | (show w.heap.size ≤ w.heap.size + 1; omega)) _))⟩)
              · have hsz := Lib.hid (show ∀ W, Calls Tryz.prog 36 #[.int .i64 4, .int .u8 (gb xs (lead xs))] W fun e w' => e = .returned (.int .i64 2) ∧ W = w' from fun W => by have hh := rsize_any 4 (gb xs (lead xs)) (hbyte.out (lead xs)) W; rw [hn] at hh; exact hh)
                rw [hn, show immM (gb xs) (lead xs + 1) 2 = gb xs (lead xs + 1) + 256 * gb xs (lead xs + 1 + 1) from by unfold immM; rw [if_neg (by decide), if_neg (by decide)]; omega] at fin0
                have hval := Lib.hid (opB_of (opOf xs) (lenOf xs) fin0.out.1 (lenOf_eq xs) ((lead xs + 1 : Nat) + 2) (by rw [fin0.out.2]; first | rfl | omega))
                clear hn
                go_wp2_with fail
                refine (hsz.out _).mono ?_
                rintro e w' ⟨rfl, rfl⟩
                have bR := hbyte.out (lead xs + 1)
                have bR0 := bR.1
                have bR1 := bR.2
                have bS := hbyte.out (lead xs + 1 + 1)
                have bS0 := bS.1
                have bS1 := bS.2
                go_wp2_with fail
                refine (hat.out (lead xs + 1) _ (by first | rfl | omega) (by omega) _ (by repeat (first | with_reducible exact hbel | with_reducible refine Below.setCell ?_ (by show w.heap.size ≤ w.heap.size + 1; omega) _))).mono ?_
                rintro e w' ⟨rfl, rfl⟩
                have r4 := Lib.hid (show Row ((((wr).setCell ⟨w.heap.size + 1, 0, none⟩ (.int .i64 4)).setCell ⟨w.heap.size + 1, 1, none⟩ (.int .u8 (gb xs (lead xs)))).setCell ⟨w.heap.size + 1, 3, none⟩ (.int .u16 (gb xs (lead xs + 1)))) (w.heap.size + 1) 39 #[.int .i64 4, .int .u8 (gb xs (lead xs)), .int .u8 0, .int .u16 (gb xs (lead xs + 1)), .int .i64 0, .int .i64 ss] from (((r1h.out).set 0 (.int .i64 4)).set 1 (.int .u8 (gb xs (lead xs)))).set 3 (.int .u16 (gb xs (lead xs + 1))))
                have hF4 := Lib.hid ((((hFh.out).set 0 (.int .i64 4)).set 1 (.int .u8 (gb xs (lead xs)))).set 3 (.int .u16 (gb xs (lead xs + 1))))
                go_upto_region 32 with (fail)
                generalize hWX : ((((wr).setCell ⟨w.heap.size + 1, 0, none⟩ (.int .i64 4)).setCell ⟨w.heap.size + 1, 1, none⟩ (.int .u8 (gb xs (lead xs)))).setCell ⟨w.heap.size + 1, 3, none⟩ (.int .u16 (gb xs (lead xs + 1)))) = W4 at *
                clear hWX c0 c1 c2 c3 c4 c5 f d0 d1 d2 d3 d4 d5 g hbel hFh r1h
                obtain ⟨⟨c0, c1, c2, c3, c4, c5⟩, f⟩ := row6 r4.out
                obtain ⟨⟨d0, d1, d2, d3, d4, d5⟩, g⟩ := row6 hF4.out.row
                have hbel := hF4.out.bel
                have bdr := hbel.drew
                go_still_tail 10, (by kernel_rfl)
                still_call ((hat.out ((lead xs + 1) + 1) _ (by first | rfl | omega | (rw [IntKind.wrap_i64]; omega)) (by omega) W4.drew bdr).mono fun e w' h => ⟨h.1, h.2.symm⟩)
                repeat still_step
                refine wpStill_nil ?_
                change wpList _ _ _ _ _ W4.drew
                have r9 := Lib.hid (show Row ((((W4).setCell ⟨w.heap.size + 1, 3, none⟩ (.int .u16 (gb xs (lead xs + 1) + 256 * gb xs (lead xs + 1 + 1)))).setCell ⟨w.heap.size + 1, 4, none⟩ (.int .i64 ((lead xs : Int) + 1 + 2))).drew) (w.heap.size + 1) 39 #[.int .i64 4, .int .u8 (gb xs (lead xs)), .int .u8 0, .int .u16 (gb xs (lead xs + 1) + 256 * gb xs (lead xs + 1 + 1)), .int .i64 ((lead xs : Int) + 1 + 2), .int .i64 ss] from ((r4.out).set 3 (.int .u16 (gb xs (lead xs + 1) + 256 * gb xs (lead xs + 1 + 1)))).set 4 (.int .i64 ((lead xs : Int) + 1 + 2)))
                have hF9 := Lib.hid (show Fb w ((((W4).setCell ⟨w.heap.size + 1, 3, none⟩ (.int .u16 (gb xs (lead xs + 1) + 256 * gb xs (lead xs + 1 + 1)))).setCell ⟨w.heap.size + 1, 4, none⟩ (.int .i64 ((lead xs : Int) + 1 + 2))).drew) from ⟨(((hF4.out).set 3 (.int .u16 (gb xs (lead xs + 1) + 256 * gb xs (lead xs + 1 + 1)))).set 4 (.int .i64 ((lead xs : Int) + 1 + 2))).row, (((hF4.out).set 3 (.int .u16 (gb xs (lead xs + 1) + 256 * gb xs (lead xs + 1 + 1)))).set 4 (.int .i64 ((lead xs : Int) + 1 + 2))).bel.drew⟩)
                go_upto_region 34 with (fail)
                generalize hWX : (((W4).setCell ⟨w.heap.size + 1, 3, none⟩ (.int .u16 (gb xs (lead xs + 1) + 256 * gb xs (lead xs + 1 + 1)))).setCell ⟨w.heap.size + 1, 4, none⟩ (.int .i64 ((lead xs : Int) + 1 + 2))).drew = W9 at *
                clear hWX c0 c1 c2 c3 c4 c5 f d0 d1 d2 d3 d4 d5 g hbel
                obtain ⟨⟨c0, c1, c2, c3, c4, c5⟩, f⟩ := row6 r9.out
                obtain ⟨⟨d0, d1, d2, d3, d4, d5⟩, g⟩ := row6 hF9.out.row
                have hbel := hF9.out.bel
                clear r9 hF9
                go_wp2
                all_goals
                  rename_i hgt
                  first
                  | (have hno := hdone.out.2 (by rw [fin0.out.2]; omega)
                     refine bodyPost_ret (v := .tuple #[opV 0 0 0 0 0 0, .bool false]) (by simp [results, Tryz.f18, go_sem, c0, c1, c2, c3, c4, c5, d0, d1, d2, d3, d4, d5]) rfl ?_
                     rw [hno.1, hno.2]
                     exact ⟨rfl, (by repeat (first | with_reducible exact hbel | with_reducible refine Below.drew ?_ | with_reducible refine Below.setCell ?_ (by first | exact Nat.le_refl _ | (show w.heap.size ≤ w.heap.size + 1; omega)) _))⟩)
                  | (have hyes := hdone.out.1 (by rw [fin0.out.2]; omega)
                     refine bodyPost_ret (v := .tuple #[opV 4 (gb xs (lead xs)) (0) (gb xs (lead xs + 1) + 256 * gb xs (lead xs + 1 + 1)) ((lead xs + 1 : Nat) + 2) (ss), .bool true]) (by simp [results, Tryz.f18, go_sem, c0, c1, c2, c3, c4, c5, d0, d1, d2, d3, d4, d5]; (try omega)) rfl ?_
                     rw [hyes.1, hyes.2]
                     rw [hval.out]
                     exact ⟨rfl, (by repeat (first | with_reducible exact hbel | with_reducible refine Below.drew ?_ | with_reducible refine Below.setCell ?_ (by first | exact Nat.le_refl _ | (show w.heap.size ≤ w.heap.size + 1; omega)) _))⟩)
            · have hPl : hPlane 4 (gb xs (lead xs)) = 4 := by unfold hPlane; rw [if_neg e203, if_neg e237]
              have fin0 := Lib.hid (hk.out 4 ss (gb xs (lead xs)) 4 (gb xs (lead xs)) (gb xs (lead xs + 1)) (ss) (lead xs + 2) h034 rfl rfl hPl (by unfold hCode; rw [hPl, if_neg (by decide), if_neg (by omega)]) (by unfold hDisp; rw [hPl, if_neg (by decide), if_neg (by omega), hN]; rfl) (by unfold hSkip; rw [if_neg (by omega)]) (by unfold hReads; rw [hPl, if_neg (by decide), if_neg (by omega), hN]; rfl))
              have hpl := Lib.hid (show ∀ W, Calls Tryz.prog 34 #[.int .u8 253, .int .u8 (gb xs (lead xs))] W fun e w' => e = .returned (.int .i64 4) ∧ W = w' from fun W => by have hh := rplane_253 (gb xs (lead xs)) W; rw [show hPlane 4 (gb xs (lead xs)) = 4 from hPl] at hh; exact hh)
              have hne := Lib.hid (show ∀ W, Calls Tryz.prog 35 #[.int .i64 4, .int .u8 (gb xs (lead xs))] W fun e w' => e = .returned (.bool true) ∧ W = w' from fun W => by have hh := drnear_any 4 (gb xs (lead xs)) (hbyte.out (lead xs)) W; rw [hN] at hh; exact hh)
              clear hN e203 e237 hPl
              go_wp2_with fail
              refine (hat.out (lead xs) _ (by first | rfl | omega) (by omega) _ (by repeat (first | with_reducible exact hbel | with_reducible refine Below.setCell ?_ (by show w.heap.size ≤ w.heap.size + 1; omega) _))).mono ?_
              rintro e w' ⟨rfl, rfl⟩
              go_wp2_with fail
              refine (hpl.out _).mono ?_
              rintro e w' ⟨rfl, rfl⟩
              go_wp2_with fail
              refine (hat.out (lead xs) _ (by first | rfl | omega) (by omega) _ (by repeat (first | with_reducible exact hbel | with_reducible refine Below.setCell ?_ (by show w.heap.size ≤ w.heap.size + 1; omega) _))).mono ?_
              rintro e w' ⟨rfl, rfl⟩
              go_wp2_with fail
              refine (hne.out _).mono ?_
              rintro e w' ⟨rfl, rfl⟩
              go_wp2_with fail
              refine (hat.out (lead xs + 1) _ (by first | rfl | omega) (by omega) _ (by repeat (first | with_reducible exact hbel | with_reducible refine Below.setCell ?_ (by show w.heap.size ≤ w.heap.size + 1; omega) _))).mono ?_
              rintro e w' ⟨rfl, rfl⟩
              rcases sizeM_cases 4 (gb xs (lead xs)) with hn | hn | hn
              · have hsz := Lib.hid (show ∀ W, Calls Tryz.prog 36 #[.int .i64 4, .int .u8 (gb xs (lead xs))] W fun e w' => e = .returned (.int .i64 0) ∧ W = w' from fun W => by have hh := rsize_any 4 (gb xs (lead xs)) (hbyte.out (lead xs)) W; rw [hn] at hh; exact hh)
                rw [hn, show immM (gb xs) (lead xs + 2) 0 = 0 from rfl] at fin0
                have hval := Lib.hid (opB_of (opOf xs) (lenOf xs) fin0.out.1 (lenOf_eq xs) ((lead xs + 2 : Nat) + 0) (by rw [fin0.out.2]; first | rfl | omega))
                clear hn
                go_wp2_with fail
                refine (hsz.out _).mono ?_
                rintro e w' ⟨rfl, rfl⟩
                have r9 := Lib.hid (show Row ((((((wr).setCell ⟨w.heap.size + 1, 0, none⟩ (.int .i64 4)).setCell ⟨w.heap.size + 1, 1, none⟩ (.int .u8 (gb xs (lead xs)))).setCell ⟨w.heap.size + 1, 2, none⟩ (.int .u8 (gb xs (lead xs + 1)))).setCell ⟨w.heap.size + 1, 4, none⟩ (.int .i64 ((lead xs : Int) + 1 + 1)))) (w.heap.size + 1) 39 #[.int .i64 4, .int .u8 (gb xs (lead xs)), .int .u8 (gb xs (lead xs + 1)), .int .u16 0, .int .i64 ((lead xs : Int) + 1 + 1), .int .i64 ss] from ((((r1h.out).set 0 (.int .i64 4)).set 1 (.int .u8 (gb xs (lead xs)))).set 2 (.int .u8 (gb xs (lead xs + 1)))).set 4 (.int .i64 ((lead xs : Int) + 1 + 1)))
                have hF9 := Lib.hid (show Fb w ((((((wr).setCell ⟨w.heap.size + 1, 0, none⟩ (.int .i64 4)).setCell ⟨w.heap.size + 1, 1, none⟩ (.int .u8 (gb xs (lead xs)))).setCell ⟨w.heap.size + 1, 2, none⟩ (.int .u8 (gb xs (lead xs + 1)))).setCell ⟨w.heap.size + 1, 4, none⟩ (.int .i64 ((lead xs : Int) + 1 + 1)))) from ⟨(((((hFh.out).set 0 (.int .i64 4)).set 1 (.int .u8 (gb xs (lead xs)))).set 2 (.int .u8 (gb xs (lead xs + 1)))).set 4 (.int .i64 ((lead xs : Int) + 1 + 1))).row, (((((hFh.out).set 0 (.int .i64 4)).set 1 (.int .u8 (gb xs (lead xs)))).set 2 (.int .u8 (gb xs (lead xs + 1)))).set 4 (.int .i64 ((lead xs : Int) + 1 + 1))).bel⟩)
                go_upto_region 34 with (fail)
                generalize hWX : (((((wr).setCell ⟨w.heap.size + 1, 0, none⟩ (.int .i64 4)).setCell ⟨w.heap.size + 1, 1, none⟩ (.int .u8 (gb xs (lead xs)))).setCell ⟨w.heap.size + 1, 2, none⟩ (.int .u8 (gb xs (lead xs + 1)))).setCell ⟨w.heap.size + 1, 4, none⟩ (.int .i64 ((lead xs : Int) + 1 + 1))) = W9 at *
                clear hWX c0 c1 c2 c3 c4 c5 f d0 d1 d2 d3 d4 d5 g hbel
                obtain ⟨⟨c0, c1, c2, c3, c4, c5⟩, f⟩ := row6 r9.out
                obtain ⟨⟨d0, d1, d2, d3, d4, d5⟩, g⟩ := row6 hF9.out.row
                have hbel := hF9.out.bel
                clear r9 hF9
                go_wp2
                all_goals
                  rename_i hgt
                  first
                  | (have hno := hdone.out.2 (by rw [fin0.out.2]; omega)
                     refine bodyPost_ret (v := .tuple #[opV 0 0 0 0 0 0, .bool false]) (by simp [results, Tryz.f18, go_sem, c0, c1, c2, c3, c4, c5, d0, d1, d2, d3, d4, d5]) rfl ?_
                     rw [hno.1, hno.2]
                     exact ⟨rfl, (by repeat (first | with_reducible exact hbel | with_reducible refine Below.drew ?_ | with_reducible refine Below.setCell ?_ (by first | exact Nat.le_refl _ | (show w.heap.size ≤ w.heap.size + 1; omega)) _))⟩)
                  | (have hyes := hdone.out.1 (by rw [fin0.out.2]; omega)
                     refine bodyPost_ret (v := .tuple #[opV 4 (gb xs (lead xs)) (gb xs (lead xs + 1)) (0) ((lead xs + 2 : Nat) + 0) (ss), .bool true]) (by simp [results, Tryz.f18, go_sem, c0, c1, c2, c3, c4, c5, d0, d1, d2, d3, d4, d5]; (try omega)) rfl ?_
                     rw [hyes.1, hyes.2]
                     rw [hval.out]
                     exact ⟨rfl, (by repeat (first | with_reducible exact hbel | with_reducible refine Below.drew ?_ | with_reducible refine Below.setCell ?_ (by first | exact Nat.le_refl _ | (show w.heap.size ≤ w.heap.size + 1; omega)) _))⟩)
              · have hsz := Lib.hid (show ∀ W, Calls Tryz.prog 36 #[.int .i64 4, .int .u8 (gb xs (lead xs))] W fun e w' => e = .returned (.int .i64 1) ∧ W = w' from fun W => by have hh := rsize_any 4 (gb xs (lead xs)) (hbyte.out (lead xs)) W; rw [hn] at hh; exact hh)
                rw [hn, show immM (gb xs) (lead xs + 2) 1 = gb xs (lead xs + 2) from rfl] at fin0
                have hval := Lib.hid (opB_of (opOf xs) (lenOf xs) fin0.out.1 (lenOf_eq xs) ((lead xs + 2 : Nat) + 1) (by rw [fin0.out.2]; first | rfl | omega))
                clear hn
                go_wp2_with fail
                refine (hsz.out _).mono ?_
                rintro e w' ⟨rfl, rfl⟩
                have bR := hbyte.out (lead xs + 2)
                have bR0 := bR.1
                have bR1 := bR.2
                go_wp2_with fail
                refine (hat.out (lead xs + 2) _ (by first | rfl | omega) (by omega) _ (by repeat (first | with_reducible exact hbel | with_reducible refine Below.setCell ?_ (by show w.heap.size ≤ w.heap.size + 1; omega) _))).mono ?_
                rintro e w' ⟨rfl, rfl⟩
                have r9 := Lib.hid (show Row (((((((wr).setCell ⟨w.heap.size + 1, 0, none⟩ (.int .i64 4)).setCell ⟨w.heap.size + 1, 1, none⟩ (.int .u8 (gb xs (lead xs)))).setCell ⟨w.heap.size + 1, 2, none⟩ (.int .u8 (gb xs (lead xs + 1)))).setCell ⟨w.heap.size + 1, 3, none⟩ (.int .u16 (gb xs (lead xs + 2)))).setCell ⟨w.heap.size + 1, 4, none⟩ (.int .i64 ((lead xs : Int) + 1 + 1 + 1)))) (w.heap.size + 1) 39 #[.int .i64 4, .int .u8 (gb xs (lead xs)), .int .u8 (gb xs (lead xs + 1)), .int .u16 (gb xs (lead xs + 2)), .int .i64 ((lead xs : Int) + 1 + 1 + 1), .int .i64 ss] from (((((r1h.out).set 0 (.int .i64 4)).set 1 (.int .u8 (gb xs (lead xs)))).set 2 (.int .u8 (gb xs (lead xs + 1)))).set 3 (.int .u16 (gb xs (lead xs + 2)))).set 4 (.int .i64 ((lead xs : Int) + 1 + 1 + 1)))
                have hF9 := Lib.hid (show Fb w (((((((wr).setCell ⟨w.heap.size + 1, 0, none⟩ (.int .i64 4)).setCell ⟨w.heap.size + 1, 1, none⟩ (.int .u8 (gb xs (lead xs)))).setCell ⟨w.heap.size + 1, 2, none⟩ (.int .u8 (gb xs (lead xs + 1)))).setCell ⟨w.heap.size + 1, 3, none⟩ (.int .u16 (gb xs (lead xs + 2)))).setCell ⟨w.heap.size + 1, 4, none⟩ (.int .i64 ((lead xs : Int) + 1 + 1 + 1)))) from ⟨((((((hFh.out).set 0 (.int .i64 4)).set 1 (.int .u8 (gb xs (lead xs)))).set 2 (.int .u8 (gb xs (lead xs + 1)))).set 3 (.int .u16 (gb xs (lead xs + 2)))).set 4 (.int .i64 ((lead xs : Int) + 1 + 1 + 1))).row, ((((((hFh.out).set 0 (.int .i64 4)).set 1 (.int .u8 (gb xs (lead xs)))).set 2 (.int .u8 (gb xs (lead xs + 1)))).set 3 (.int .u16 (gb xs (lead xs + 2)))).set 4 (.int .i64 ((lead xs : Int) + 1 + 1 + 1))).bel⟩)
                go_upto_region 34 with (fail)
                generalize hWX : ((((((wr).setCell ⟨w.heap.size + 1, 0, none⟩ (.int .i64 4)).setCell ⟨w.heap.size + 1, 1, none⟩ (.int .u8 (gb xs (lead xs)))).setCell ⟨w.heap.size + 1, 2, none⟩ (.int .u8 (gb xs (lead xs + 1)))).setCell ⟨w.heap.size + 1, 3, none⟩ (.int .u16 (gb xs (lead xs + 2)))).setCell ⟨w.heap.size + 1, 4, none⟩ (.int .i64 ((lead xs : Int) + 1 + 1 + 1))) = W9 at *
                clear hWX c0 c1 c2 c3 c4 c5 f d0 d1 d2 d3 d4 d5 g hbel
                obtain ⟨⟨c0, c1, c2, c3, c4, c5⟩, f⟩ := row6 r9.out
                obtain ⟨⟨d0, d1, d2, d3, d4, d5⟩, g⟩ := row6 hF9.out.row
                have hbel := hF9.out.bel
                clear r9 hF9
                go_wp2
                all_goals
                  rename_i hgt
                  first
                  | (have hno := hdone.out.2 (by rw [fin0.out.2]; omega)
                     refine bodyPost_ret (v := .tuple #[opV 0 0 0 0 0 0, .bool false]) (by simp [results, Tryz.f18, go_sem, c0, c1, c2, c3, c4, c5, d0, d1, d2, d3, d4, d5]) rfl ?_
                     rw [hno.1, hno.2]
                     exact ⟨rfl, (by repeat (first | with_reducible exact hbel | with_reducible refine Below.drew ?_ | with_reducible refine Below.setCell ?_ (by first | exact Nat.le_refl _ | (show w.heap.size ≤ w.heap.size + 1; omega)) _))⟩)
                  | (have hyes := hdone.out.1 (by rw [fin0.out.2]; omega)
                     refine bodyPost_ret (v := .tuple #[opV 4 (gb xs (lead xs)) (gb xs (lead xs + 1)) (gb xs (lead xs + 2)) ((lead xs + 2 : Nat) + 1) (ss), .bool true]) (by simp [results, Tryz.f18, go_sem, c0, c1, c2, c3, c4, c5, d0, d1, d2, d3, d4, d5]; (try omega)) rfl ?_
                     rw [hyes.1, hyes.2]
                     rw [hval.out]
                     exact ⟨rfl, (by repeat (first | with_reducible exact hbel | with_reducible refine Below.drew ?_ | with_reducible refine Below.setCell ?_ (by first | exact Nat.le_refl _ | (show w.heap.size ≤ w.heap.size + 1; omega)) _))⟩)
              · have hsz := Lib.hid (show ∀ W, Calls Tryz.prog 36 #[.int .i64 4, .int .u8 (gb xs (lead xs))] W fun e w' => e = .returned (.int .i64 2) ∧ W = w' from fun W => by have hh := rsize_any 4 (gb xs (lead xs)) (hbyte.out (lead xs)) W; rw [hn] at hh; exact hh)
                rw [hn, show immM (gb xs) (lead xs + 2) 2 = gb xs (lead xs + 2) + 256 * gb xs (lead xs + 2 + 1) from by unfold immM; rw [if_neg (by decide), if_neg (by decide)]; omega] at fin0
                have hval := Lib.hid (opB_of (opOf xs) (lenOf xs) fin0.out.1 (lenOf_eq xs) ((lead xs + 2 : Nat) + 2) (by rw [fin0.out.2]; first | rfl | omega))
                clear hn
                go_wp2_with fail
                refine (hsz.out _).mono ?_
                rintro e w' ⟨rfl, rfl⟩
                have bR := hbyte.out (lead xs + 2)
                have bR0 := bR.1
                have bR1 := bR.2
                have bS := hbyte.out (lead xs + 2 + 1)
                have bS0 := bS.1
                have bS1 := bS.2
                go_wp2_with fail
                refine (hat.out (lead xs + 2) _ (by first | rfl | omega) (by omega) _ (by repeat (first | with_reducible exact hbel | with_reducible refine Below.setCell ?_ (by show w.heap.size ≤ w.heap.size + 1; omega) _))).mono ?_
                rintro e w' ⟨rfl, rfl⟩
                have r4 := Lib.hid (show Row (((((wr).setCell ⟨w.heap.size + 1, 0, none⟩ (.int .i64 4)).setCell ⟨w.heap.size + 1, 1, none⟩ (.int .u8 (gb xs (lead xs)))).setCell ⟨w.heap.size + 1, 2, none⟩ (.int .u8 (gb xs (lead xs + 1)))).setCell ⟨w.heap.size + 1, 3, none⟩ (.int .u16 (gb xs (lead xs + 2)))) (w.heap.size + 1) 39 #[.int .i64 4, .int .u8 (gb xs (lead xs)), .int .u8 (gb xs (lead xs + 1)), .int .u16 (gb xs (lead xs + 2)), .int .i64 0, .int .i64 ss] from ((((r1h.out).set 0 (.int .i64 4)).set 1 (.int .u8 (gb xs (lead xs)))).set 2 (.int .u8 (gb xs (lead xs + 1)))).set 3 (.int .u16 (gb xs (lead xs + 2))))
                have hF4 := Lib.hid (((((hFh.out).set 0 (.int .i64 4)).set 1 (.int .u8 (gb xs (lead xs)))).set 2 (.int .u8 (gb xs (lead xs + 1)))).set 3 (.int .u16 (gb xs (lead xs + 2))))
                go_upto_region 32 with (fail)
                generalize hWX : (((((wr).setCell ⟨w.heap.size + 1, 0, none⟩ (.int .i64 4)).setCell ⟨w.heap.size + 1, 1, none⟩ (.int .u8 (gb xs (lead xs)))).setCell ⟨w.heap.size + 1, 2, none⟩ (.int .u8 (gb xs (lead xs + 1)))).setCell ⟨w.heap.size + 1, 3, none⟩ (.int .u16 (gb xs (lead xs + 2)))) = W4 at *
                clear hWX c0 c1 c2 c3 c4 c5 f d0 d1 d2 d3 d4 d5 g hbel hFh r1h
                obtain ⟨⟨c0, c1, c2, c3, c4, c5⟩, f⟩ := row6 r4.out
                obtain ⟨⟨d0, d1, d2, d3, d4, d5⟩, g⟩ := row6 hF4.out.row
                have hbel := hF4.out.bel
                have bdr := hbel.drew
                go_still_tail 10, (by kernel_rfl)
                still_call ((hat.out ((lead xs + 2) + 1) _ (by first | rfl | omega | (rw [IntKind.wrap_i64]; omega)) (by omega) W4.drew bdr).mono fun e w' h => ⟨h.1, h.2.symm⟩)
                repeat still_step
                refine wpStill_nil ?_
                change wpList _ _ _ _ _ W4.drew
                have r9 := Lib.hid (show Row ((((W4).setCell ⟨w.heap.size + 1, 3, none⟩ (.int .u16 (gb xs (lead xs + 2) + 256 * gb xs (lead xs + 2 + 1)))).setCell ⟨w.heap.size + 1, 4, none⟩ (.int .i64 ((lead xs : Int) + 1 + 1 + 2))).drew) (w.heap.size + 1) 39 #[.int .i64 4, .int .u8 (gb xs (lead xs)), .int .u8 (gb xs (lead xs + 1)), .int .u16 (gb xs (lead xs + 2) + 256 * gb xs (lead xs + 2 + 1)), .int .i64 ((lead xs : Int) + 1 + 1 + 2), .int .i64 ss] from ((r4.out).set 3 (.int .u16 (gb xs (lead xs + 2) + 256 * gb xs (lead xs + 2 + 1)))).set 4 (.int .i64 ((lead xs : Int) + 1 + 1 + 2)))
                have hF9 := Lib.hid (show Fb w ((((W4).setCell ⟨w.heap.size + 1, 3, none⟩ (.int .u16 (gb xs (lead xs + 2) + 256 * gb xs (lead xs + 2 + 1)))).setCell ⟨w.heap.size + 1, 4, none⟩ (.int .i64 ((lead xs : Int) + 1 + 1 + 2))).drew) from ⟨(((hF4.out).set 3 (.int .u16 (gb xs (lead xs + 2) + 256 * gb xs (lead xs + 2 + 1)))).set 4 (.int .i64 ((lead xs : Int) + 1 + 1 + 2))).row, (((hF4.out).set 3 (.int .u16 (gb xs (lead xs + 2) + 256 * gb xs (lead xs + 2 + 1)))).set 4 (.int .i64 ((lead xs : Int) + 1 + 1 + 2))).bel.drew⟩)
                go_upto_region 34 with (fail)
                generalize hWX : (((W4).setCell ⟨w.heap.size + 1, 3, none⟩ (.int .u16 (gb xs (lead xs + 2) + 256 * gb xs (lead xs + 2 + 1)))).setCell ⟨w.heap.size + 1, 4, none⟩ (.int .i64 ((lead xs : Int) + 1 + 1 + 2))).drew = W9 at *
                clear hWX c0 c1 c2 c3 c4 c5 f d0 d1 d2 d3 d4 d5 g hbel
                obtain ⟨⟨c0, c1, c2, c3, c4, c5⟩, f⟩ := row6 r9.out
                obtain ⟨⟨d0, d1, d2, d3, d4, d5⟩, g⟩ := row6 hF9.out.row
                have hbel := hF9.out.bel
                clear r9 hF9
                go_wp2
                all_goals
                  rename_i hgt
                  first
                  | (have hno := hdone.out.2 (by rw [fin0.out.2]; omega)
                     refine bodyPost_ret (v := .tuple #[opV 0 0 0 0 0 0, .bool false]) (by simp [results, Tryz.f18, go_sem, c0, c1, c2, c3, c4, c5, d0, d1, d2, d3, d4, d5]) rfl ?_
                     rw [hno.1, hno.2]
                     exact ⟨rfl, (by repeat (first | with_reducible exact hbel | with_reducible refine Below.drew ?_ | with_reducible refine Below.setCell ?_ (by first | exact Nat.le_refl _ | (show w.heap.size ≤ w.heap.size + 1; omega)) _))⟩)
                  | (have hyes := hdone.out.1 (by rw [fin0.out.2]; omega)
                     refine bodyPost_ret (v := .tuple #[opV 4 (gb xs (lead xs)) (gb xs (lead xs + 1)) (gb xs (lead xs + 2) + 256 * gb xs (lead xs + 2 + 1)) ((lead xs + 2 : Nat) + 2) (ss), .bool true]) (by simp [results, Tryz.f18, go_sem, c0, c1, c2, c3, c4, c5, d0, d1, d2, d3, d4, d5]; (try omega)) rfl ?_
                     rw [hyes.1, hyes.2]
                     rw [hval.out]
                     exact ⟨rfl, (by repeat (first | with_reducible exact hbel | with_reducible refine Below.drew ?_ | with_reducible refine Below.setCell ?_ (by first | exact Nat.le_refl _ | (show w.heap.size ≤ w.heap.size + 1; omega)) _))⟩)
def u8Vs (l : List Int) : List Value := l.map (Value.int .u8)
def Tab8 (w : World) (name : String) (l : List Int) : Prop := w.var? Tryz.prog name = some (u8Vs l).toArray
theorem tab8_below {w w' : World} {name : String} {l : List Int} (h : Tab8 w name l) (k : Below w.heap.size w w') : Tab8 w' name l := by
  unfold Tab8 World.var? at h ⊢
  obtain ⟨g, hg, h⟩ := Option.bind_eq_some_iff.1 h
  rw [hg, Option.bind_some]
  have hlt : g < w.heap.size := by
    rcases Nat.lt_or_ge g w.heap.size with e | e
    · exact e
    · rw [Array.getElem?_eq_none e] at h; cases h
  rw [k.block g hlt]
  exact h
theorem Tab8.at_ {w : World} {name : String} {l : List Int} {g : Nat} (h : Tab8 w name l) (hg : Tryz.prog.globalNamed name = some g) (i : Nat) (hi : i < l.length) : w.cell? ⟨g, i, none⟩ = some (.int .u8 (l.getD i 0)) := by
  rw [World.var?_cell hg h i]
  simp [u8Vs, hi]
structure TimesTabs (w : World) : Prop where
  rows : Tab8 w "charabanc/times.rows" rowsT
  rowOf : Tab8 w "charabanc/times.rowOf" rowOfT
  single : Tab8 w "charabanc/times.single" singleT
  special : Tab8 w "charabanc/times.special" specialT
theorem TimesTabs.below {w w' : World} (h : TimesTabs w) (k : Below w.heap.size w w') : TimesTabs w' :=
  ⟨tab8_below h.rows k, tab8_below h.rowOf k, tab8_below h.single k, tab8_below h.special k⟩
theorem unheld_fin : ∀ c : Fin 256, 4 ≤ unheldM (c.val : Int) ∧ unheldM (c.val : Int) ≤ 19 := by decide +kernel
theorem unheld_all (c : Int) (hc : B8 c) : 4 ≤ unheldM c ∧ unheldM c ≤ 19 := byte_all (P := fun c => 4 ≤ unheldM c ∧ unheldM c ≤ 19) unheld_fin c hc.1 hc.2
theorem fields3 (c : Int) (hc : B8 c) : (0 ≤ fx c ∧ fx c ≤ 3) ∧ (0 ≤ fy c ∧ fy c ≤ 7) ∧ (0 ≤ fz c ∧ fz c ≤ 7) := ⟨fx_b c hc, fy_b c hc, fz_b c hc⟩
theorem added_fin : ∀ c : Fin 256, 0 ≤ addedM (c.val : Int) ∧ addedM (c.val : Int) ≤ 7 := by decide +kernel
theorem added_all (c : Int) (hc : B8 c) : 0 ≤ addedM c ∧ addedM c ≤ 7 := byte_all (P := fun c => 0 ≤ addedM c ∧ addedM c ≤ 7) added_fin c hc.1 hc.2
theorem keep6r {w w' : World} {B : Nat} {v0 v1 v2 v3 v4 v5 : Value} (k : Below w.heap.size w w')
    (h : w.cell? ⟨B, 0, none⟩ = some v0 ∧ w.cell? ⟨B, 1, none⟩ = some v1 ∧ w.cell? ⟨B, 2, none⟩ = some v2 ∧ w.cell? ⟨B, 3, none⟩ = some v3 ∧ w.cell? ⟨B, 4, none⟩ = some v4 ∧ w.cell? ⟨B, 5, none⟩ = some v5) :
    w'.cell? ⟨B, 0, none⟩ = some v0 ∧ w'.cell? ⟨B, 1, none⟩ = some v1 ∧ w'.cell? ⟨B, 2, none⟩ = some v2 ∧ w'.cell? ⟨B, 3, none⟩ = some v3 ∧ w'.cell? ⟨B, 4, none⟩ = some v4 ∧ w'.cell? ⟨B, 5, none⟩ = some v5 :=
  ⟨cell_kept h.1 k, cell_kept h.2.1 k, cell_kept h.2.2.1 k, cell_kept h.2.2.2.1 k, cell_kept h.2.2.2.2.1 k, cell_kept h.2.2.2.2.2 k⟩
theorem row6c {w : World} {g : Nat} {t : TypeId} {v0 v1 v2 v3 v4 v5 : Value} (h : Row w g t #[v0, v1, v2, v3, v4, v5]) :
    w.cell? ⟨g, 0, none⟩ = some v0 ∧ w.cell? ⟨g, 1, none⟩ = some v1 ∧ w.cell? ⟨g, 2, none⟩ = some v2 ∧ w.cell? ⟨g, 3, none⟩ = some v3 ∧ w.cell? ⟨g, 4, none⟩ = some v4 ∧ w.cell? ⟨g, 5, none⟩ = some v5 :=
  ⟨h.cell 0, h.cell 1, h.cell 2, h.cell 3, h.cell 4, h.cell 5⟩
theorem of_eq (p c s : Int) (t : Bool) (hp : ¬ (p < 0 ∨ 6 < p)) : ofM p c s t = wrap64 (wrap64 (4 * s) + netM p c t) := by
  unfold ofM
  rw [if_neg hp]
  unfold wrap64
  omega
def rowR (k : Int) : List Int := ((rowsT.drop (rowOfT.getD k.toNat 0 * 16).toNat).take 16)
def r10V (k : Int) : Value := .agg ((rowR k).map (Value.int .i64)).toArray
theorem arr16_info : (Tryz.prog.info? 62).map (·.size) = some 16 := by kernel_rfl
theorem row10_0 : r10V 0 = .agg #[.int .i64 4, .int .i64 10, .int .i64 7, .int .i64 6, .int .i64 4, .int .i64 4, .int .i64 7, .int .i64 4, .int .i64 4, .int .i64 11, .int .i64 7, .int .i64 6, .int .i64 4, .int .i64 4, .int .i64 7, .int .i64 4] := by
  unfold r10V
  rw [show rowR 0 = [4, 10, 7, 6, 4, 4, 7, 4, 4, 11, 7, 6, 4, 4, 7, 4] by decide +kernel]
  rfl
set_option maxHeartbeats 4000000 in
theorem rrow_0 (w : World) :
    Calls Tryz.prog 38 #[.int .i64 0] w fun e w' => e = .returned (r10V 0) ∧ Below w.heap.size w w' := by
  rw [row10_0]
  go_enter Tryz.func38, Tryz.ntmps38
  go_upto_region 3 with (first
    | (refine wpList_build rfl _ _ rfl #[.int .i64 4, .int .i64 4, .int .i64 4, .int .i64 4, .int .i64 4, .int .i64 4, .int .i64 7, .int .i64 4, .int .i64 4, .int .i64 4, .int .i64 4, .int .i64 4, .int .i64 4, .int .i64 4, .int .i64 7, .int .i64 4] (by kernel_rfl) ?_)
    | (refine wpList_store_top rfl _ _ _ rfl _ _ _ _ _ rfl rfl (by simp) (Eq.refl 16) arr16_info (by decide) ?_))
  go_wp2_with (first
    | (refine wpList_build rfl _ _ rfl #[.int .i64 4, .int .i64 10, .int .i64 7, .int .i64 6, .int .i64 4, .int .i64 4, .int .i64 7, .int .i64 4, .int .i64 4, .int .i64 11, .int .i64 7, .int .i64 6, .int .i64 4, .int .i64 4, .int .i64 7, .int .i64 4] (by kernel_rfl) ?_)
    | (refine wpList_load_top rfl 62 _ rfl _ _ _ _ rfl (by simp) _ Tryz.underlying62 rfl arr16_info ?_)
    | (refine wpList_store_next rfl _ _ _ rfl _ _ _ _ _ _ rfl rfl rfl (Eq.refl 16) arr16_info (by decide) ?_)
    | (refine wpList_store_top rfl _ _ _ rfl _ _ _ _ _ rfl rfl (by simp) (Eq.refl 16) arr16_info (by decide) ?_))
  refine bodyPost_ret (results_row rfl rfl ((Row.new w _ _).alloc _) _ Tryz.underlying62 rfl arr16_info) rfl ?_
  exact ⟨rfl, (by repeat (first | exact Below.refl _ _ | assumption | refine bstep ?_ (by assumption) | refine Below.drew ?_ | refine Below.alloc ?_ (by first | (simp; done) | (simp; omega) | omega) _ | refine Below.setCell ?_ (by first | (simp; done) | (simp; omega) | omega) _))⟩
theorem row10_1 : r10V 1 = .agg #[.int .i64 8, .int .i64 10, .int .i64 7, .int .i64 6, .int .i64 4, .int .i64 4, .int .i64 7, .int .i64 4, .int .i64 12, .int .i64 11, .int .i64 7, .int .i64 6, .int .i64 4, .int .i64 4, .int .i64 7, .int .i64 4] := by
  unfold r10V
  rw [show rowR 1 = [8, 10, 7, 6, 4, 4, 7, 4, 12, 11, 7, 6, 4, 4, 7, 4] by decide +kernel]
  rfl
set_option maxHeartbeats 4000000 in
theorem rrow_1 (w : World) :
    Calls Tryz.prog 38 #[.int .i64 1] w fun e w' => e = .returned (r10V 1) ∧ Below w.heap.size w w' := by
  rw [row10_1]
  go_enter Tryz.func38, Tryz.ntmps38
  go_upto_region 3 with (first
    | (refine wpList_build rfl _ _ rfl #[.int .i64 4, .int .i64 4, .int .i64 4, .int .i64 4, .int .i64 4, .int .i64 4, .int .i64 7, .int .i64 4, .int .i64 4, .int .i64 4, .int .i64 4, .int .i64 4, .int .i64 4, .int .i64 4, .int .i64 7, .int .i64 4] (by kernel_rfl) ?_)
    | (refine wpList_store_top rfl _ _ _ rfl _ _ _ _ _ rfl rfl (by simp) (Eq.refl 16) arr16_info (by decide) ?_))
  go_wp2_with (first
    | (refine wpList_build rfl _ _ rfl #[.int .i64 8, .int .i64 10, .int .i64 7, .int .i64 6, .int .i64 4, .int .i64 4, .int .i64 7, .int .i64 4, .int .i64 12, .int .i64 11, .int .i64 7, .int .i64 6, .int .i64 4, .int .i64 4, .int .i64 7, .int .i64 4] (by kernel_rfl) ?_)
    | (refine wpList_load_top rfl 62 _ rfl _ _ _ _ rfl (by simp) _ Tryz.underlying62 rfl arr16_info ?_)
    | (refine wpList_store_next rfl _ _ _ rfl _ _ _ _ _ _ rfl rfl rfl (Eq.refl 16) arr16_info (by decide) ?_)
    | (refine wpList_store_top rfl _ _ _ rfl _ _ _ _ _ rfl rfl (by simp) (Eq.refl 16) arr16_info (by decide) ?_))
  refine bodyPost_ret (results_row rfl rfl ((Row.new w _ _).alloc _) _ Tryz.underlying62 rfl arr16_info) rfl ?_
  exact ⟨rfl, (by repeat (first | exact Below.refl _ _ | assumption | refine bstep ?_ (by assumption) | refine Below.drew ?_ | refine Below.alloc ?_ (by first | (simp; done) | (simp; omega) | omega) _ | refine Below.setCell ?_ (by first | (simp; done) | (simp; omega) | omega) _))⟩
theorem row10_2 : r10V 2 = .agg #[.int .i64 7, .int .i64 10, .int .i64 16, .int .i64 6, .int .i64 4, .int .i64 4, .int .i64 7, .int .i64 4, .int .i64 7, .int .i64 11, .int .i64 16, .int .i64 6, .int .i64 4, .int .i64 4, .int .i64 7, .int .i64 4] := by
  unfold r10V
  rw [show rowR 2 = [7, 10, 16, 6, 4, 4, 7, 4, 7, 11, 16, 6, 4, 4, 7, 4] by decide +kernel]
  rfl
set_option maxHeartbeats 4000000 in
theorem rrow_2 (w : World) :
    Calls Tryz.prog 38 #[.int .i64 2] w fun e w' => e = .returned (r10V 2) ∧ Below w.heap.size w w' := by
  rw [row10_2]
  go_enter Tryz.func38, Tryz.ntmps38
  go_upto_region 3 with (first
    | (refine wpList_build rfl _ _ rfl #[.int .i64 4, .int .i64 4, .int .i64 4, .int .i64 4, .int .i64 4, .int .i64 4, .int .i64 7, .int .i64 4, .int .i64 4, .int .i64 4, .int .i64 4, .int .i64 4, .int .i64 4, .int .i64 4, .int .i64 7, .int .i64 4] (by kernel_rfl) ?_)
    | (refine wpList_store_top rfl _ _ _ rfl _ _ _ _ _ rfl rfl (by simp) (Eq.refl 16) arr16_info (by decide) ?_))
  go_wp2_with (first
    | (refine wpList_build rfl _ _ rfl #[.int .i64 7, .int .i64 10, .int .i64 16, .int .i64 6, .int .i64 4, .int .i64 4, .int .i64 7, .int .i64 4, .int .i64 7, .int .i64 11, .int .i64 16, .int .i64 6, .int .i64 4, .int .i64 4, .int .i64 7, .int .i64 4] (by kernel_rfl) ?_)
    | (refine wpList_load_top rfl 62 _ rfl _ _ _ _ rfl (by simp) _ Tryz.underlying62 rfl arr16_info ?_)
    | (refine wpList_store_next rfl _ _ _ rfl _ _ _ _ _ _ rfl rfl rfl (Eq.refl 16) arr16_info (by decide) ?_)
    | (refine wpList_store_top rfl _ _ _ rfl _ _ _ _ _ rfl rfl (by simp) (Eq.refl 16) arr16_info (by decide) ?_))
  refine bodyPost_ret (results_row rfl rfl ((Row.new w _ _).alloc _) _ Tryz.underlying62 rfl arr16_info) rfl ?_
  exact ⟨rfl, (by repeat (first | exact Below.refl _ _ | assumption | refine bstep ?_ (by assumption) | refine Below.drew ?_ | refine Below.alloc ?_ (by first | (simp; done) | (simp; omega) | omega) _ | refine Below.setCell ?_ (by first | (simp; done) | (simp; omega) | omega) _))⟩
theorem row10_3 : r10V 3 = .agg #[.int .i64 7, .int .i64 10, .int .i64 13, .int .i64 6, .int .i64 11, .int .i64 11, .int .i64 10, .int .i64 4, .int .i64 7, .int .i64 11, .int .i64 13, .int .i64 6, .int .i64 4, .int .i64 4, .int .i64 7, .int .i64 4] := by
  unfold r10V
  rw [show rowR 3 = [7, 10, 13, 6, 11, 11, 10, 4, 7, 11, 13, 6, 4, 4, 7, 4] by decide +kernel]
  rfl
set_option maxHeartbeats 4000000 in
theorem rrow_3 (w : World) :
    Calls Tryz.prog 38 #[.int .i64 3] w fun e w' => e = .returned (r10V 3) ∧ Below w.heap.size w w' := by
  rw [row10_3]
  go_enter Tryz.func38, Tryz.ntmps38
  go_upto_region 3 with (first
    | (refine wpList_build rfl _ _ rfl #[.int .i64 4, .int .i64 4, .int .i64 4, .int .i64 4, .int .i64 4, .int .i64 4, .int .i64 7, .int .i64 4, .int .i64 4, .int .i64 4, .int .i64 4, .int .i64 4, .int .i64 4, .int .i64 4, .int .i64 7, .int .i64 4] (by kernel_rfl) ?_)
    | (refine wpList_store_top rfl _ _ _ rfl _ _ _ _ _ rfl rfl (by simp) (Eq.refl 16) arr16_info (by decide) ?_))
  go_wp2_with (first
    | (refine wpList_build rfl _ _ rfl #[.int .i64 7, .int .i64 10, .int .i64 13, .int .i64 6, .int .i64 11, .int .i64 11, .int .i64 10, .int .i64 4, .int .i64 7, .int .i64 11, .int .i64 13, .int .i64 6, .int .i64 4, .int .i64 4, .int .i64 7, .int .i64 4] (by kernel_rfl) ?_)
    | (refine wpList_load_top rfl 62 _ rfl _ _ _ _ rfl (by simp) _ Tryz.underlying62 rfl arr16_info ?_)
    | (refine wpList_store_next rfl _ _ _ rfl _ _ _ _ _ _ rfl rfl rfl (Eq.refl 16) arr16_info (by decide) ?_)
    | (refine wpList_store_top rfl _ _ _ rfl _ _ _ _ _ rfl rfl (by simp) (Eq.refl 16) arr16_info (by decide) ?_))
  refine bodyPost_ret (results_row rfl rfl ((Row.new w _ _).alloc _) _ Tryz.underlying62 rfl arr16_info) rfl ?_
  exact ⟨rfl, (by repeat (first | exact Below.refl _ _ | assumption | refine bstep ?_ (by assumption) | refine Below.drew ?_ | refine Below.alloc ?_ (by first | (simp; done) | (simp; omega) | omega) _ | refine Below.setCell ?_ (by first | (simp; done) | (simp; omega) | omega) _))⟩
theorem row10_4 : r10V 4 = .agg #[.int .i64 4, .int .i64 4, .int .i64 4, .int .i64 4, .int .i64 4, .int .i64 4, .int .i64 7, .int .i64 4, .int .i64 4, .int .i64 4, .int .i64 4, .int .i64 4, .int .i64 4, .int .i64 4, .int .i64 7, .int .i64 4] := by
  unfold r10V
  rw [show rowR 4 = [4, 4, 4, 4, 4, 4, 7, 4, 4, 4, 4, 4, 4, 4, 7, 4] by decide +kernel]
  rfl
set_option maxHeartbeats 4000000 in
theorem rrow_4 (w : World) :
    Calls Tryz.prog 38 #[.int .i64 4] w fun e w' => e = .returned (r10V 4) ∧ Below w.heap.size w w' := by
  rw [row10_4]
  go_enter Tryz.func38, Tryz.ntmps38
  go_upto_region 3 with (first
    | (refine wpList_build rfl _ _ rfl #[.int .i64 4, .int .i64 4, .int .i64 4, .int .i64 4, .int .i64 4, .int .i64 4, .int .i64 7, .int .i64 4, .int .i64 4, .int .i64 4, .int .i64 4, .int .i64 4, .int .i64 4, .int .i64 4, .int .i64 7, .int .i64 4] (by kernel_rfl) ?_)
    | (refine wpList_store_top rfl _ _ _ rfl _ _ _ _ _ rfl rfl (by simp) (Eq.refl 16) arr16_info (by decide) ?_))
  go_wp2_with (first
    | (refine wpList_load_top rfl 62 _ rfl _ _ _ _ rfl (by simp) _ Tryz.underlying62 rfl arr16_info ?_)
    | (refine wpList_store_next rfl _ _ _ rfl _ _ _ _ _ _ rfl rfl rfl (Eq.refl 16) arr16_info (by decide) ?_)
    | (refine wpList_store_top rfl _ _ _ rfl _ _ _ _ _ rfl rfl (by simp) (Eq.refl 16) arr16_info (by decide) ?_))
  refine bodyPost_ret (results_row rfl rfl ((Row.new w _ _).alloc _) _ Tryz.underlying62 rfl arr16_info) rfl ?_
  exact ⟨rfl, (by repeat (first | exact Below.refl _ _ | assumption | refine bstep ?_ (by assumption) | refine Below.drew ?_ | refine Below.alloc ?_ (by first | (simp; done) | (simp; omega) | omega) _ | refine Below.setCell ?_ (by first | (simp; done) | (simp; omega) | omega) _))⟩
theorem row10_5 : r10V 5 = .agg #[.int .i64 4, .int .i64 4, .int .i64 4, .int .i64 4, .int .i64 4, .int .i64 4, .int .i64 7, .int .i64 4, .int .i64 4, .int .i64 4, .int .i64 4, .int .i64 4, .int .i64 4, .int .i64 4, .int .i64 7, .int .i64 4] := by
  unfold r10V
  rw [show rowR 5 = [4, 4, 4, 4, 4, 4, 7, 4, 4, 4, 4, 4, 4, 4, 7, 4] by decide +kernel]
  rfl
set_option maxHeartbeats 4000000 in
theorem rrow_5 (w : World) :
    Calls Tryz.prog 38 #[.int .i64 5] w fun e w' => e = .returned (r10V 5) ∧ Below w.heap.size w w' := by
  rw [row10_5]
  go_enter Tryz.func38, Tryz.ntmps38
  go_upto_region 3 with (first
    | (refine wpList_build rfl _ _ rfl #[.int .i64 4, .int .i64 4, .int .i64 4, .int .i64 4, .int .i64 4, .int .i64 4, .int .i64 7, .int .i64 4, .int .i64 4, .int .i64 4, .int .i64 4, .int .i64 4, .int .i64 4, .int .i64 4, .int .i64 7, .int .i64 4] (by kernel_rfl) ?_)
    | (refine wpList_store_top rfl _ _ _ rfl _ _ _ _ _ rfl rfl (by simp) (Eq.refl 16) arr16_info (by decide) ?_))
  go_wp2_with (first
    | (refine wpList_load_top rfl 62 _ rfl _ _ _ _ rfl (by simp) _ Tryz.underlying62 rfl arr16_info ?_)
    | (refine wpList_store_next rfl _ _ _ rfl _ _ _ _ _ _ rfl rfl rfl (Eq.refl 16) arr16_info (by decide) ?_)
    | (refine wpList_store_top rfl _ _ _ rfl _ _ _ _ _ rfl rfl (by simp) (Eq.refl 16) arr16_info (by decide) ?_))
  refine bodyPost_ret (results_row rfl rfl ((Row.new w _ _).alloc _) _ Tryz.underlying62 rfl arr16_info) rfl ?_
  exact ⟨rfl, (by repeat (first | exact Below.refl _ _ | assumption | refine bstep ?_ (by assumption) | refine Below.drew ?_ | refine Below.alloc ?_ (by first | (simp; done) | (simp; omega) | omega) _ | refine Below.setCell ?_ (by first | (simp; done) | (simp; omega) | omega) _))⟩
theorem row10_6 : r10V 6 = .agg #[.int .i64 4, .int .i64 4, .int .i64 4, .int .i64 4, .int .i64 4, .int .i64 4, .int .i64 7, .int .i64 4, .int .i64 4, .int .i64 4, .int .i64 4, .int .i64 4, .int .i64 4, .int .i64 4, .int .i64 7, .int .i64 4] := by
  unfold r10V
  rw [show rowR 6 = [4, 4, 4, 4, 4, 4, 7, 4, 4, 4, 4, 4, 4, 4, 7, 4] by decide +kernel]
  rfl
set_option maxHeartbeats 4000000 in
theorem rrow_6 (w : World) :
    Calls Tryz.prog 38 #[.int .i64 6] w fun e w' => e = .returned (r10V 6) ∧ Below w.heap.size w w' := by
  rw [row10_6]
  go_enter Tryz.func38, Tryz.ntmps38
  go_upto_region 3 with (first
    | (refine wpList_build rfl _ _ rfl #[.int .i64 4, .int .i64 4, .int .i64 4, .int .i64 4, .int .i64 4, .int .i64 4, .int .i64 7, .int .i64 4, .int .i64 4, .int .i64 4, .int .i64 4, .int .i64 4, .int .i64 4, .int .i64 4, .int .i64 7, .int .i64 4] (by kernel_rfl) ?_)
    | (refine wpList_store_top rfl _ _ _ rfl _ _ _ _ _ rfl rfl (by simp) (Eq.refl 16) arr16_info (by decide) ?_))
  go_wp2_with (first
    | (refine wpList_load_top rfl 62 _ rfl _ _ _ _ rfl (by simp) _ Tryz.underlying62 rfl arr16_info ?_)
    | (refine wpList_store_next rfl _ _ _ rfl _ _ _ _ _ _ rfl rfl rfl (Eq.refl 16) arr16_info (by decide) ?_)
    | (refine wpList_store_top rfl _ _ _ rfl _ _ _ _ _ rfl rfl (by simp) (Eq.refl 16) arr16_info (by decide) ?_))
  refine bodyPost_ret (results_row rfl rfl ((Row.new w _ _).alloc _) _ Tryz.underlying62 rfl arr16_info) rfl ?_
  exact ⟨rfl, (by repeat (first | exact Below.refl _ _ | assumption | refine bstep ?_ (by assumption) | refine Below.drew ?_ | refine Below.alloc ?_ (by first | (simp; done) | (simp; omega) | omega) _ | refine Below.setCell ?_ (by first | (simp; done) | (simp; omega) | omega) _))⟩
theorem row10_7 : r10V 7 = .agg #[.int .i64 7, .int .i64 7, .int .i64 7, .int .i64 7, .int .i64 7, .int .i64 7, .int .i64 4, .int .i64 7, .int .i64 4, .int .i64 4, .int .i64 4, .int .i64 4, .int .i64 4, .int .i64 4, .int .i64 7, .int .i64 4] := by
  unfold r10V
  rw [show rowR 7 = [7, 7, 7, 7, 7, 7, 4, 7, 4, 4, 4, 4, 4, 4, 7, 4] by decide +kernel]
  rfl
set_option maxHeartbeats 4000000 in
theorem rrow_7 (w : World) :
    Calls Tryz.prog 38 #[.int .i64 7] w fun e w' => e = .returned (r10V 7) ∧ Below w.heap.size w w' := by
  rw [row10_7]
  go_enter Tryz.func38, Tryz.ntmps38
  go_upto_region 3 with (first
    | (refine wpList_build rfl _ _ rfl #[.int .i64 4, .int .i64 4, .int .i64 4, .int .i64 4, .int .i64 4, .int .i64 4, .int .i64 7, .int .i64 4, .int .i64 4, .int .i64 4, .int .i64 4, .int .i64 4, .int .i64 4, .int .i64 4, .int .i64 7, .int .i64 4] (by kernel_rfl) ?_)
    | (refine wpList_store_top rfl _ _ _ rfl _ _ _ _ _ rfl rfl (by simp) (Eq.refl 16) arr16_info (by decide) ?_))
  go_wp2_with (first
    | (refine wpList_build rfl _ _ rfl #[.int .i64 7, .int .i64 7, .int .i64 7, .int .i64 7, .int .i64 7, .int .i64 7, .int .i64 4, .int .i64 7, .int .i64 4, .int .i64 4, .int .i64 4, .int .i64 4, .int .i64 4, .int .i64 4, .int .i64 7, .int .i64 4] (by kernel_rfl) ?_)
    | (refine wpList_load_top rfl 62 _ rfl _ _ _ _ rfl (by simp) _ Tryz.underlying62 rfl arr16_info ?_)
    | (refine wpList_store_next rfl _ _ _ rfl _ _ _ _ _ _ rfl rfl rfl (Eq.refl 16) arr16_info (by decide) ?_)
    | (refine wpList_store_top rfl _ _ _ rfl _ _ _ _ _ rfl rfl (by simp) (Eq.refl 16) arr16_info (by decide) ?_))
  refine bodyPost_ret (results_row rfl rfl ((Row.new w _ _).alloc _) _ Tryz.underlying62 rfl arr16_info) rfl ?_
  exact ⟨rfl, (by repeat (first | exact Below.refl _ _ | assumption | refine bstep ?_ (by assumption) | refine Below.drew ?_ | refine Below.alloc ?_ (by first | (simp; done) | (simp; omega) | omega) _ | refine Below.setCell ?_ (by first | (simp; done) | (simp; omega) | omega) _))⟩
theorem row10_8 : r10V 8 = .agg #[.int .i64 4, .int .i64 4, .int .i64 4, .int .i64 4, .int .i64 4, .int .i64 4, .int .i64 7, .int .i64 4, .int .i64 4, .int .i64 4, .int .i64 4, .int .i64 4, .int .i64 4, .int .i64 4, .int .i64 7, .int .i64 4] := by
  unfold r10V
  rw [show rowR 8 = [4, 4, 4, 4, 4, 4, 7, 4, 4, 4, 4, 4, 4, 4, 7, 4] by decide +kernel]
  rfl
set_option maxHeartbeats 4000000 in
theorem rrow_8 (w : World) :
    Calls Tryz.prog 38 #[.int .i64 8] w fun e w' => e = .returned (r10V 8) ∧ Below w.heap.size w w' := by
  rw [row10_8]
  go_enter Tryz.func38, Tryz.ntmps38
  go_upto_region 3 with (first
    | (refine wpList_build rfl _ _ rfl #[.int .i64 4, .int .i64 4, .int .i64 4, .int .i64 4, .int .i64 4, .int .i64 4, .int .i64 7, .int .i64 4, .int .i64 4, .int .i64 4, .int .i64 4, .int .i64 4, .int .i64 4, .int .i64 4, .int .i64 7, .int .i64 4] (by kernel_rfl) ?_)
    | (refine wpList_store_top rfl _ _ _ rfl _ _ _ _ _ rfl rfl (by simp) (Eq.refl 16) arr16_info (by decide) ?_))
  go_wp2_with (first
    | (refine wpList_load_top rfl 62 _ rfl _ _ _ _ rfl (by simp) _ Tryz.underlying62 rfl arr16_info ?_)
    | (refine wpList_store_next rfl _ _ _ rfl _ _ _ _ _ _ rfl rfl rfl (Eq.refl 16) arr16_info (by decide) ?_)
    | (refine wpList_store_top rfl _ _ _ rfl _ _ _ _ _ rfl rfl (by simp) (Eq.refl 16) arr16_info (by decide) ?_))
  refine bodyPost_ret (results_row rfl rfl ((Row.new w _ _).alloc _) _ Tryz.underlying62 rfl arr16_info) rfl ?_
  exact ⟨rfl, (by repeat (first | exact Below.refl _ _ | assumption | refine bstep ?_ (by assumption) | refine Below.drew ?_ | refine Below.alloc ?_ (by first | (simp; done) | (simp; omega) | omega) _ | refine Below.setCell ?_ (by first | (simp; done) | (simp; omega) | omega) _))⟩
theorem row10_9 : r10V 9 = .agg #[.int .i64 4, .int .i64 4, .int .i64 4, .int .i64 4, .int .i64 4, .int .i64 4, .int .i64 7, .int .i64 4, .int .i64 4, .int .i64 4, .int .i64 4, .int .i64 4, .int .i64 4, .int .i64 4, .int .i64 7, .int .i64 4] := by
  unfold r10V
  rw [show rowR 9 = [4, 4, 4, 4, 4, 4, 7, 4, 4, 4, 4, 4, 4, 4, 7, 4] by decide +kernel]
  rfl
set_option maxHeartbeats 4000000 in
theorem rrow_9 (w : World) :
    Calls Tryz.prog 38 #[.int .i64 9] w fun e w' => e = .returned (r10V 9) ∧ Below w.heap.size w w' := by
  rw [row10_9]
  go_enter Tryz.func38, Tryz.ntmps38
  go_upto_region 3 with (first
    | (refine wpList_build rfl _ _ rfl #[.int .i64 4, .int .i64 4, .int .i64 4, .int .i64 4, .int .i64 4, .int .i64 4, .int .i64 7, .int .i64 4, .int .i64 4, .int .i64 4, .int .i64 4, .int .i64 4, .int .i64 4, .int .i64 4, .int .i64 7, .int .i64 4] (by kernel_rfl) ?_)
    | (refine wpList_store_top rfl _ _ _ rfl _ _ _ _ _ rfl rfl (by simp) (Eq.refl 16) arr16_info (by decide) ?_))
  go_wp2_with (first
    | (refine wpList_load_top rfl 62 _ rfl _ _ _ _ rfl (by simp) _ Tryz.underlying62 rfl arr16_info ?_)
    | (refine wpList_store_next rfl _ _ _ rfl _ _ _ _ _ _ rfl rfl rfl (Eq.refl 16) arr16_info (by decide) ?_)
    | (refine wpList_store_top rfl _ _ _ rfl _ _ _ _ _ rfl rfl (by simp) (Eq.refl 16) arr16_info (by decide) ?_))
  refine bodyPost_ret (results_row rfl rfl ((Row.new w _ _).alloc _) _ Tryz.underlying62 rfl arr16_info) rfl ?_
  exact ⟨rfl, (by repeat (first | exact Below.refl _ _ | assumption | refine bstep ?_ (by assumption) | refine Below.drew ?_ | refine Below.alloc ?_ (by first | (simp; done) | (simp; omega) | omega) _ | refine Below.setCell ?_ (by first | (simp; done) | (simp; omega) | omega) _))⟩
theorem row10_10 : r10V 10 = .agg #[.int .i64 4, .int .i64 4, .int .i64 4, .int .i64 4, .int .i64 4, .int .i64 4, .int .i64 7, .int .i64 4, .int .i64 4, .int .i64 4, .int .i64 4, .int .i64 4, .int .i64 4, .int .i64 4, .int .i64 7, .int .i64 4] := by
  unfold r10V
  rw [show rowR 10 = [4, 4, 4, 4, 4, 4, 7, 4, 4, 4, 4, 4, 4, 4, 7, 4] by decide +kernel]
  rfl
set_option maxHeartbeats 4000000 in
theorem rrow_10 (w : World) :
    Calls Tryz.prog 38 #[.int .i64 10] w fun e w' => e = .returned (r10V 10) ∧ Below w.heap.size w w' := by
  rw [row10_10]
  go_enter Tryz.func38, Tryz.ntmps38
  go_upto_region 3 with (first
    | (refine wpList_build rfl _ _ rfl #[.int .i64 4, .int .i64 4, .int .i64 4, .int .i64 4, .int .i64 4, .int .i64 4, .int .i64 7, .int .i64 4, .int .i64 4, .int .i64 4, .int .i64 4, .int .i64 4, .int .i64 4, .int .i64 4, .int .i64 7, .int .i64 4] (by kernel_rfl) ?_)
    | (refine wpList_store_top rfl _ _ _ rfl _ _ _ _ _ rfl rfl (by simp) (Eq.refl 16) arr16_info (by decide) ?_))
  go_wp2_with (first
    | (refine wpList_load_top rfl 62 _ rfl _ _ _ _ rfl (by simp) _ Tryz.underlying62 rfl arr16_info ?_)
    | (refine wpList_store_next rfl _ _ _ rfl _ _ _ _ _ _ rfl rfl rfl (Eq.refl 16) arr16_info (by decide) ?_)
    | (refine wpList_store_top rfl _ _ _ rfl _ _ _ _ _ rfl rfl (by simp) (Eq.refl 16) arr16_info (by decide) ?_))
  refine bodyPost_ret (results_row rfl rfl ((Row.new w _ _).alloc _) _ Tryz.underlying62 rfl arr16_info) rfl ?_
  exact ⟨rfl, (by repeat (first | exact Below.refl _ _ | assumption | refine bstep ?_ (by assumption) | refine Below.drew ?_ | refine Below.alloc ?_ (by first | (simp; done) | (simp; omega) | omega) _ | refine Below.setCell ?_ (by first | (simp; done) | (simp; omega) | omega) _))⟩
theorem row10_11 : r10V 11 = .agg #[.int .i64 4, .int .i64 4, .int .i64 4, .int .i64 4, .int .i64 4, .int .i64 4, .int .i64 7, .int .i64 4, .int .i64 4, .int .i64 4, .int .i64 4, .int .i64 4, .int .i64 4, .int .i64 4, .int .i64 7, .int .i64 4] := by
  unfold r10V
  rw [show rowR 11 = [4, 4, 4, 4, 4, 4, 7, 4, 4, 4, 4, 4, 4, 4, 7, 4] by decide +kernel]
  rfl
set_option maxHeartbeats 4000000 in
theorem rrow_11 (w : World) :
    Calls Tryz.prog 38 #[.int .i64 11] w fun e w' => e = .returned (r10V 11) ∧ Below w.heap.size w w' := by
  rw [row10_11]
  go_enter Tryz.func38, Tryz.ntmps38
  go_upto_region 3 with (first
    | (refine wpList_build rfl _ _ rfl #[.int .i64 4, .int .i64 4, .int .i64 4, .int .i64 4, .int .i64 4, .int .i64 4, .int .i64 7, .int .i64 4, .int .i64 4, .int .i64 4, .int .i64 4, .int .i64 4, .int .i64 4, .int .i64 4, .int .i64 7, .int .i64 4] (by kernel_rfl) ?_)
    | (refine wpList_store_top rfl _ _ _ rfl _ _ _ _ _ rfl rfl (by simp) (Eq.refl 16) arr16_info (by decide) ?_))
  go_wp2_with (first
    | (refine wpList_load_top rfl 62 _ rfl _ _ _ _ rfl (by simp) _ Tryz.underlying62 rfl arr16_info ?_)
    | (refine wpList_store_next rfl _ _ _ rfl _ _ _ _ _ _ rfl rfl rfl (Eq.refl 16) arr16_info (by decide) ?_)
    | (refine wpList_store_top rfl _ _ _ rfl _ _ _ _ _ rfl rfl (by simp) (Eq.refl 16) arr16_info (by decide) ?_))
  refine bodyPost_ret (results_row rfl rfl ((Row.new w _ _).alloc _) _ Tryz.underlying62 rfl arr16_info) rfl ?_
  exact ⟨rfl, (by repeat (first | exact Below.refl _ _ | assumption | refine bstep ?_ (by assumption) | refine Below.drew ?_ | refine Below.alloc ?_ (by first | (simp; done) | (simp; omega) | omega) _ | refine Below.setCell ?_ (by first | (simp; done) | (simp; omega) | omega) _))⟩
theorem row10_12 : r10V 12 = .agg #[.int .i64 5, .int .i64 10, .int .i64 10, .int .i64 10, .int .i64 10, .int .i64 11, .int .i64 7, .int .i64 11, .int .i64 5, .int .i64 10, .int .i64 10, .int .i64 4, .int .i64 10, .int .i64 17, .int .i64 7, .int .i64 11] := by
  unfold r10V
  rw [show rowR 12 = [5, 10, 10, 10, 10, 11, 7, 11, 5, 10, 10, 4, 10, 17, 7, 11] by decide +kernel]
  rfl
set_option maxHeartbeats 4000000 in
theorem rrow_12 (w : World) :
    Calls Tryz.prog 38 #[.int .i64 12] w fun e w' => e = .returned (r10V 12) ∧ Below w.heap.size w w' := by
  rw [row10_12]
  go_enter Tryz.func38, Tryz.ntmps38
  go_upto_region 3 with (first
    | (refine wpList_build rfl _ _ rfl #[.int .i64 4, .int .i64 4, .int .i64 4, .int .i64 4, .int .i64 4, .int .i64 4, .int .i64 7, .int .i64 4, .int .i64 4, .int .i64 4, .int .i64 4, .int .i64 4, .int .i64 4, .int .i64 4, .int .i64 7, .int .i64 4] (by kernel_rfl) ?_)
    | (refine wpList_store_top rfl _ _ _ rfl _ _ _ _ _ rfl rfl (by simp) (Eq.refl 16) arr16_info (by decide) ?_))
  go_wp2_with (first
    | (refine wpList_build rfl _ _ rfl #[.int .i64 5, .int .i64 10, .int .i64 10, .int .i64 10, .int .i64 10, .int .i64 11, .int .i64 7, .int .i64 11, .int .i64 5, .int .i64 10, .int .i64 10, .int .i64 4, .int .i64 10, .int .i64 17, .int .i64 7, .int .i64 11] (by kernel_rfl) ?_)
    | (refine wpList_load_top rfl 62 _ rfl _ _ _ _ rfl (by simp) _ Tryz.underlying62 rfl arr16_info ?_)
    | (refine wpList_store_next rfl _ _ _ rfl _ _ _ _ _ _ rfl rfl rfl (Eq.refl 16) arr16_info (by decide) ?_)
    | (refine wpList_store_top rfl _ _ _ rfl _ _ _ _ _ rfl rfl (by simp) (Eq.refl 16) arr16_info (by decide) ?_))
  refine bodyPost_ret (results_row rfl rfl ((Row.new w _ _).alloc _) _ Tryz.underlying62 rfl arr16_info) rfl ?_
  exact ⟨rfl, (by repeat (first | exact Below.refl _ _ | assumption | refine bstep ?_ (by assumption) | refine Below.drew ?_ | refine Below.alloc ?_ (by first | (simp; done) | (simp; omega) | omega) _ | refine Below.setCell ?_ (by first | (simp; done) | (simp; omega) | omega) _))⟩
theorem row10_13 : r10V 13 = .agg #[.int .i64 5, .int .i64 10, .int .i64 10, .int .i64 11, .int .i64 10, .int .i64 11, .int .i64 7, .int .i64 11, .int .i64 5, .int .i64 4, .int .i64 10, .int .i64 11, .int .i64 10, .int .i64 4, .int .i64 7, .int .i64 11] := by
  unfold r10V
  rw [show rowR 13 = [5, 10, 10, 11, 10, 11, 7, 11, 5, 4, 10, 11, 10, 4, 7, 11] by decide +kernel]
  rfl
set_option maxHeartbeats 4000000 in
theorem rrow_13 (w : World) :
    Calls Tryz.prog 38 #[.int .i64 13] w fun e w' => e = .returned (r10V 13) ∧ Below w.heap.size w w' := by
  rw [row10_13]
  go_enter Tryz.func38, Tryz.ntmps38
  go_upto_region 3 with (first
    | (refine wpList_build rfl _ _ rfl #[.int .i64 4, .int .i64 4, .int .i64 4, .int .i64 4, .int .i64 4, .int .i64 4, .int .i64 7, .int .i64 4, .int .i64 4, .int .i64 4, .int .i64 4, .int .i64 4, .int .i64 4, .int .i64 4, .int .i64 7, .int .i64 4] (by kernel_rfl) ?_)
    | (refine wpList_store_top rfl _ _ _ rfl _ _ _ _ _ rfl rfl (by simp) (Eq.refl 16) arr16_info (by decide) ?_))
  go_wp2_with (first
    | (refine wpList_build rfl _ _ rfl #[.int .i64 5, .int .i64 10, .int .i64 10, .int .i64 11, .int .i64 10, .int .i64 11, .int .i64 7, .int .i64 11, .int .i64 5, .int .i64 4, .int .i64 10, .int .i64 11, .int .i64 10, .int .i64 4, .int .i64 7, .int .i64 11] (by kernel_rfl) ?_)
    | (refine wpList_load_top rfl 62 _ rfl _ _ _ _ rfl (by simp) _ Tryz.underlying62 rfl arr16_info ?_)
    | (refine wpList_store_next rfl _ _ _ rfl _ _ _ _ _ _ rfl rfl rfl (Eq.refl 16) arr16_info (by decide) ?_)
    | (refine wpList_store_top rfl _ _ _ rfl _ _ _ _ _ rfl rfl (by simp) (Eq.refl 16) arr16_info (by decide) ?_))
  refine bodyPost_ret (results_row rfl rfl ((Row.new w _ _).alloc _) _ Tryz.underlying62 rfl arr16_info) rfl ?_
  exact ⟨rfl, (by repeat (first | exact Below.refl _ _ | assumption | refine bstep ?_ (by assumption) | refine Below.drew ?_ | refine Below.alloc ?_ (by first | (simp; done) | (simp; omega) | omega) _ | refine Below.setCell ?_ (by first | (simp; done) | (simp; omega) | omega) _))⟩
theorem row10_14 : r10V 14 = .agg #[.int .i64 5, .int .i64 10, .int .i64 10, .int .i64 19, .int .i64 10, .int .i64 11, .int .i64 7, .int .i64 11, .int .i64 5, .int .i64 4, .int .i64 10, .int .i64 4, .int .i64 10, .int .i64 4, .int .i64 7, .int .i64 11] := by
  unfold r10V
  rw [show rowR 14 = [5, 10, 10, 19, 10, 11, 7, 11, 5, 4, 10, 4, 10, 4, 7, 11] by decide +kernel]
  rfl
set_option maxHeartbeats 4000000 in
theorem rrow_14 (w : World) :
    Calls Tryz.prog 38 #[.int .i64 14] w fun e w' => e = .returned (r10V 14) ∧ Below w.heap.size w w' := by
  rw [row10_14]
  go_enter Tryz.func38, Tryz.ntmps38
  go_upto_region 3 with (first
    | (refine wpList_build rfl _ _ rfl #[.int .i64 4, .int .i64 4, .int .i64 4, .int .i64 4, .int .i64 4, .int .i64 4, .int .i64 7, .int .i64 4, .int .i64 4, .int .i64 4, .int .i64 4, .int .i64 4, .int .i64 4, .int .i64 4, .int .i64 7, .int .i64 4] (by kernel_rfl) ?_)
    | (refine wpList_store_top rfl _ _ _ rfl _ _ _ _ _ rfl rfl (by simp) (Eq.refl 16) arr16_info (by decide) ?_))
  go_wp2_with (first
    | (refine wpList_build rfl _ _ rfl #[.int .i64 5, .int .i64 10, .int .i64 10, .int .i64 19, .int .i64 10, .int .i64 11, .int .i64 7, .int .i64 11, .int .i64 5, .int .i64 4, .int .i64 10, .int .i64 4, .int .i64 10, .int .i64 4, .int .i64 7, .int .i64 11] (by kernel_rfl) ?_)
    | (refine wpList_load_top rfl 62 _ rfl _ _ _ _ rfl (by simp) _ Tryz.underlying62 rfl arr16_info ?_)
    | (refine wpList_store_next rfl _ _ _ rfl _ _ _ _ _ _ rfl rfl rfl (Eq.refl 16) arr16_info (by decide) ?_)
    | (refine wpList_store_top rfl _ _ _ rfl _ _ _ _ _ rfl rfl (by simp) (Eq.refl 16) arr16_info (by decide) ?_))
  refine bodyPost_ret (results_row rfl rfl ((Row.new w _ _).alloc _) _ Tryz.underlying62 rfl arr16_info) rfl ?_
  exact ⟨rfl, (by repeat (first | exact Below.refl _ _ | assumption | refine bstep ?_ (by assumption) | refine Below.drew ?_ | refine Below.alloc ?_ (by first | (simp; done) | (simp; omega) | omega) _ | refine Below.setCell ?_ (by first | (simp; done) | (simp; omega) | omega) _))⟩
theorem row10_15 : r10V 15 = .agg #[.int .i64 5, .int .i64 10, .int .i64 10, .int .i64 4, .int .i64 10, .int .i64 11, .int .i64 7, .int .i64 11, .int .i64 5, .int .i64 6, .int .i64 10, .int .i64 4, .int .i64 10, .int .i64 4, .int .i64 7, .int .i64 11] := by
  unfold r10V
  rw [show rowR 15 = [5, 10, 10, 4, 10, 11, 7, 11, 5, 6, 10, 4, 10, 4, 7, 11] by decide +kernel]
  rfl
set_option maxHeartbeats 4000000 in
theorem rrow_15 (w : World) :
    Calls Tryz.prog 38 #[.int .i64 15] w fun e w' => e = .returned (r10V 15) ∧ Below w.heap.size w w' := by
  rw [row10_15]
  go_enter Tryz.func38, Tryz.ntmps38
  go_upto_region 3 with (first
    | (refine wpList_build rfl _ _ rfl #[.int .i64 4, .int .i64 4, .int .i64 4, .int .i64 4, .int .i64 4, .int .i64 4, .int .i64 7, .int .i64 4, .int .i64 4, .int .i64 4, .int .i64 4, .int .i64 4, .int .i64 4, .int .i64 4, .int .i64 7, .int .i64 4] (by kernel_rfl) ?_)
    | (refine wpList_store_top rfl _ _ _ rfl _ _ _ _ _ rfl rfl (by simp) (Eq.refl 16) arr16_info (by decide) ?_))
  go_wp2_with (first
    | (refine wpList_build rfl _ _ rfl #[.int .i64 5, .int .i64 10, .int .i64 10, .int .i64 4, .int .i64 10, .int .i64 11, .int .i64 7, .int .i64 11, .int .i64 5, .int .i64 6, .int .i64 10, .int .i64 4, .int .i64 10, .int .i64 4, .int .i64 7, .int .i64 11] (by kernel_rfl) ?_)
    | (refine wpList_load_top rfl 62 _ rfl _ _ _ _ rfl (by simp) _ Tryz.underlying62 rfl arr16_info ?_)
    | (refine wpList_store_next rfl _ _ _ rfl _ _ _ _ _ _ rfl rfl rfl (Eq.refl 16) arr16_info (by decide) ?_)
    | (refine wpList_store_top rfl _ _ _ rfl _ _ _ _ _ rfl rfl (by simp) (Eq.refl 16) arr16_info (by decide) ?_))
  refine bodyPost_ret (results_row rfl rfl ((Row.new w _ _).alloc _) _ Tryz.underlying62 rfl arr16_info) rfl ?_
  exact ⟨rfl, (by repeat (first | exact Below.refl _ _ | assumption | refine bstep ?_ (by assumption) | refine Below.drew ?_ | refine Below.alloc ?_ (by first | (simp; done) | (simp; omega) | omega) _ | refine Below.setCell ?_ (by first | (simp; done) | (simp; omega) | omega) _))⟩
theorem rrow_any (k : Int) (hk : 0 ≤ k ∧ k ≤ 15) (w : World) :
    Calls Tryz.prog 38 #[.int .i64 k] w fun e w' => e = .returned (r10V k) ∧ Below w.heap.size w w' := by
  obtain rfl | rfl | rfl | rfl | rfl | rfl | rfl | rfl | rfl | rfl | rfl | rfl | rfl | rfl | rfl | rfl : k = 0 ∨ k = 1 ∨ k = 2 ∨ k = 3 ∨ k = 4 ∨ k = 5 ∨ k = 6 ∨ k = 7 ∨ k = 8 ∨ k = 9 ∨ k = 10 ∨ k = 11 ∨ k = 12 ∨ k = 13 ∨ k = 14 ∨ k = 15 := by omega
  · exact rrow_0 w
  · exact rrow_1 w
  · exact rrow_2 w
  · exact rrow_3 w
  · exact rrow_4 w
  · exact rrow_5 w
  · exact rrow_6 w
  · exact rrow_7 w
  · exact rrow_8 w
  · exact rrow_9 w
  · exact rrow_10 w
  · exact rrow_11 w
  · exact rrow_12 w
  · exact rrow_13 w
  · exact rrow_14 w
  · exact rrow_15 w
theorem row10_fin : ∀ c : Fin 256, (rowR ((c.val : Int) / 16))[((c.val : Int) % 16).toNat]? = some (unheldM (c.val : Int)) := by decide +kernel
theorem ix10 (c : Int) (hc : B8 c) (w : World) : (Instr.index 62 (r10V (c / 16)) (.int .i64 (c % 16))).run Tryz.prog w = .ok (.int .i64 (unheldM c)) w := by
  have h := byte_all (P := fun c => (rowR (c / 16))[(c % 16).toNat]? = some (unheldM c)) row10_fin c hc.1 hc.2
  unfold r10V
  refine run_index_arr Tryz.underlying62 (by kernel_rfl) (by kernel_rfl) ⟨by omega, by omega⟩ ?_
  simp only [List.getElem?_toArray, List.getElem?_map]
  rw [h]
  rfl
theorem more_fin : ∀ c : Fin 256, addedM (c.val : Int) = if (c.val : Int) = 16 ∨ (c.val : Int) = 32 ∨ (c.val : Int) = 40 ∨ (c.val : Int) = 48 ∨ (c.val : Int) = 56 then 5 else if fx (c.val : Int) = 3 ∧ fz (c.val : Int) = 0 then 6 else if fx (c.val : Int) = 3 ∧ fz (c.val : Int) = 4 then 7 else 0 := by decide +kernel
theorem more_all (c : Int) (hc : B8 c) : addedM c = if c = 16 ∨ c = 32 ∨ c = 40 ∨ c = 48 ∨ c = 56 then 5 else if fx c = 3 ∧ fz c = 0 then 6 else if fx c = 3 ∧ fz c = 4 then 7 else 0 :=
  byte_all (P := fun c => addedM c = if c = 16 ∨ c = 32 ∨ c = 40 ∨ c = 48 ∨ c = 56 then 5 else if fx c = 3 ∧ fz c = 0 then 6 else if fx c = 3 ∧ fz c = 4 then 7 else 0) more_fin c hc.1 hc.2
set_option maxHeartbeats 4000000 in
theorem rmore_any (c : Int) (hc : B8 c) (w : World) :
    Calls Tryz.prog 39 #[.int .u8 c] w fun e w' => e = .returned (.int .i64 (addedM c)) ∧ w = w' := by
  have hf := Lib.hid (rfields_any c hc)
  have hd := Lib.hid (more_all c hc)
  unfold five at hf
  generalize addedM c = A at *
  generalize fx c = x at *
  generalize fy c = y at *
  generalize fz c = z at *
  generalize fp c = p at *
  generalize fq c = q at *
  by_cases h5 : c = 16 ∨ c = 32 ∨ c = 40 ∨ c = 48 ∨ c = 56
  · have e : A = 5 := by rw [hd.out, if_pos h5]
    clear hd
    subst e
    obtain rfl | rfl | rfl | rfl | rfl := h5
    all_goals
      go_enter Tryz.func39, Tryz.ntmps39
      go_wp2_with (go_at_call 37; refine (hf.out _).mono ?_; rintro e w' ⟨rfl, rfl⟩)
      go_ret
      exact ⟨rfl, rfl⟩
  · have e1 : (c == 16) = false := by simp; omega
    have e2 : (c == 32) = false := by simp; omega
    have e3 : (c == 40) = false := by simp; omega
    have e4 : (c == 48) = false := by simp; omega
    have e5 : (c == 56) = false := by simp; omega
    have hd2 := Lib.hid (hd.out.trans (if_neg h5))
    clear hd h5
    by_cases x3 : x = 3
    · subst x3
      by_cases z0 : z = 0
      · subst z0
        have e : A = 6 := by rw [hd2.out]; simp
        clear hd2
        subst e
        go_enter Tryz.func39, Tryz.ntmps39
        go_wp2_with (go_at_call 37; refine (hf.out _).mono ?_; rintro e w' ⟨rfl, rfl⟩)
        go_ret
        exact ⟨rfl, rfl⟩
      · have z0' : (z == 0) = false := by simpa using z0
        by_cases z4 : z = 4
        · subst z4
          have e : A = 7 := by rw [hd2.out]; simp
          clear hd2
          subst e
          go_enter Tryz.func39, Tryz.ntmps39
          go_wp2_with (go_at_call 37; refine (hf.out _).mono ?_; rintro e w' ⟨rfl, rfl⟩)
          go_ret
          exact ⟨rfl, rfl⟩
        · have z4' : (z == 4) = false := by simpa using z4
          have e : A = 0 := by rw [hd2.out]; simp [z0, z4]
          clear hd2
          subst e
          go_enter Tryz.func39, Tryz.ntmps39
          go_wp2_with (go_at_call 37; refine (hf.out _).mono ?_; rintro e w' ⟨rfl, rfl⟩)
          go_ret
          exact ⟨rfl, rfl⟩
    · have x3' : (x == 3) = false := by simpa using x3
      have e : A = 0 := by rw [hd2.out]; simp [x3]
      clear hd2
      subst e
      go_enter Tryz.func39, Tryz.ntmps39
      go_wp2_with (go_at_call 37; refine (hf.out _).mono ?_; rintro e w' ⟨rfl, rfl⟩)
      go_ret
      exact ⟨rfl, rfl⟩
def extR (x y z : Int) (t : Bool) : Int := if x = 1 then (if z < 7 then singleT.getD z.toNat 0 else specialT.getD y.toNat 0) else if x = 2 ∧ z < 4 ∧ 4 ≤ y then (if t && decide (6 ≤ y) then 21 else 16) else 8
set_option maxHeartbeats 4000000 in
theorem tred_any (x y z : Int) (t : Bool) (hx : 0 ≤ x ∧ x ≤ 3) (hy : 0 ≤ y ∧ y ≤ 7) (hz : 0 ≤ z ∧ z ≤ 7) (w : World) :
    Calls Tryz.prog 40 #[.int .i64 x, .int .i64 y, .int .i64 z, .bool t] w fun e w' => e = .returned (.int .i64 (extR x y z t)) ∧ Below w.heap.size w w' := by
  by_cases x1 : x = 1
  · subst x1
    obtain rfl | rfl | rfl | rfl | rfl | rfl | rfl | rfl : z = 0 ∨ z = 1 ∨ z = 2 ∨ z = 3 ∨ z = 4 ∨ z = 5 ∨ z = 6 ∨ z = 7 := by omega
    case inr.inr.inr.inr.inr.inr.inr =>
      obtain rfl | rfl | rfl | rfl | rfl | rfl | rfl | rfl : y = 0 ∨ y = 1 ∨ y = 2 ∨ y = 3 ∨ y = 4 ∨ y = 5 ∨ y = 6 ∨ y = 7 := by omega
      all_goals
        go_enter Tryz.func40, Tryz.ntmps40
        go_wp2
        go_ret
        exact ⟨rfl, (by repeat (first | exact Below.refl _ _ | assumption | refine bstep ?_ (by assumption) | refine Below.drew ?_ | refine Below.alloc ?_ (by first | (simp; done) | (simp; omega) | omega) _ | refine Below.setCell ?_ (by first | (simp; done) | (simp; omega) | omega) _))⟩
    all_goals
      go_enter Tryz.func40, Tryz.ntmps40
      go_wp2
      go_ret
      exact ⟨rfl, (by repeat (first | exact Below.refl _ _ | assumption | refine bstep ?_ (by assumption) | refine Below.drew ?_ | refine Below.alloc ?_ (by first | (simp; done) | (simp; omega) | omega) _ | refine Below.setCell ?_ (by first | (simp; done) | (simp; omega) | omega) _))⟩
  · have x1' : (x != 1) = true := by simpa using x1
    by_cases x2 : x = 2
    · subst x2
      by_cases z4 : z < 4
      · by_cases y4 : 4 ≤ y
        · have e : extR 2 y z t = (if t && decide (6 ≤ y) then 21 else 16) := by unfold extR; simp [z4, y4]
          rw [e]
          have y3 : decide (3 < y) = true := by simp; omega
          by_cases y6 : 6 ≤ y
          · have y5 : decide (5 < y) = true := by simp; omega
            rw [decide_eq_true y6]
            clear e y6
            cases t
            · simp only [Bool.false_and, Bool.false_eq_true, if_false]
              go_enter Tryz.func40, Tryz.ntmps40
              go_wp2
              go_ret
              exact ⟨rfl, (by repeat (first | exact Below.refl _ _ | assumption | refine bstep ?_ (by assumption) | refine Below.drew ?_ | refine Below.alloc ?_ (by first | (simp; done) | (simp; omega) | omega) _ | refine Below.setCell ?_ (by first | (simp; done) | (simp; omega) | omega) _))⟩
            · simp only [Bool.true_and, if_true]
              go_enter Tryz.func40, Tryz.ntmps40
              go_wp2
              go_ret
              exact ⟨rfl, (by repeat (first | exact Below.refl _ _ | assumption | refine bstep ?_ (by assumption) | refine Below.drew ?_ | refine Below.alloc ?_ (by first | (simp; done) | (simp; omega) | omega) _ | refine Below.setCell ?_ (by first | (simp; done) | (simp; omega) | omega) _))⟩
          · have y5 : decide (5 < y) = false := by simp; omega
            rw [decide_eq_false y6]
            clear e y6
            simp only [Bool.and_false, Bool.false_eq_true, if_false]
            go_enter Tryz.func40, Tryz.ntmps40
            go_wp2
            go_ret
            exact ⟨rfl, (by repeat (first | exact Below.refl _ _ | assumption | refine bstep ?_ (by assumption) | refine Below.drew ?_ | refine Below.alloc ?_ (by first | (simp; done) | (simp; omega) | omega) _ | refine Below.setCell ?_ (by first | (simp; done) | (simp; omega) | omega) _))⟩
        · have e : extR 2 y z t = 8 := by unfold extR; simp [z4, y4]
          rw [e]
          clear e
          go_enter Tryz.func40, Tryz.ntmps40
          go_wp2
          go_ret
          exact ⟨rfl, (by repeat (first | exact Below.refl _ _ | assumption | refine bstep ?_ (by assumption) | refine Below.drew ?_ | refine Below.alloc ?_ (by first | (simp; done) | (simp; omega) | omega) _ | refine Below.setCell ?_ (by first | (simp; done) | (simp; omega) | omega) _))⟩
      · have e : extR 2 y z t = 8 := by unfold extR; simp [z4]
        rw [e]
        clear e
        go_enter Tryz.func40, Tryz.ntmps40
        go_wp2
        go_ret
        exact ⟨rfl, (by repeat (first | exact Below.refl _ _ | assumption | refine bstep ?_ (by assumption) | refine Below.drew ?_ | refine Below.alloc ?_ (by first | (simp; done) | (simp; omega) | omega) _ | refine Below.setCell ?_ (by first | (simp; done) | (simp; omega) | omega) _))⟩
    · have x2' : (x == 2) = false := by simpa using x2
      have e : extR x y z t = 8 := by unfold extR; simp [x1, x2]
      rw [e]
      clear e
      go_enter Tryz.func40, Tryz.ntmps40
      go_wp2
      go_ret
      exact ⟨rfl, (by repeat (first | exact Below.refl _ _ | assumption | refine bstep ?_ (by assumption) | refine Below.drew ?_ | refine Below.alloc ?_ (by first | (simp; done) | (simp; omega) | omega) _ | refine Below.setCell ?_ (by first | (simp; done) | (simp; omega) | omega) _))⟩
theorem near54 (p c : Int) (hc : B8 c) (hp : p = 3 ∨ p = 4) : reachM p c = (if nearM p c then 8 else 0) - (if c = 54 then 3 else 0) := by
  unfold reachM
  by_cases h : c = 54
  · subst h
    rcases hp with rfl | rfl <;> rfl
  · rw [if_neg h, if_neg h]
    omega
theorem of_eqR (p c s : Int) (t : Bool) (hp : ¬ (p < 0 ∨ 6 < p)) : ofM p c s t = wrap64 (netM p c t + wrap64 (4 * s)) := by
  rw [of_eq p c s t hp]
  unfold wrap64
  omega
set_option maxHeartbeats 4000000 in
theorem rTimesOf_any (p c d m le s : Int) (t : Bool) (hc : B8 c) (w : World) :
    Calls Tryz.prog 19 #[opV p c d m le s, .bool t] w fun e w' => e = .returned (.int .i64 (ofM p c s t)) ∧ Below w.heap.size w w' := by
  have bx := fields3 c hc
  have b1 := unheld_all c hc
  have b2 := added_all c hc
  have hc0 := hc.1
  have hc1 := hc.2
  have hk : 0 ≤ c / 16 ∧ c / 16 ≤ 15 := by omega
  have kf := Lib.hid (rfields_any c hc)
  have wc : IntKind.i64.wrap c = c := by rw [IntKind.wrap_i64]; omega
  have q1 : IntKind.i64.wrap ((IntKind.i64.wrap c).tdiv 16) = c / 16 := by rw [wc, Int.tdiv_eq_ediv_of_nonneg hc0, IntKind.wrap_i64]; omega
  have q2' : (IntKind.i64.wrap c).tmod 16 = c % 16 := by rw [wc, Int.tmod_eq_emod_of_nonneg hc0]
  have kr := Lib.hid (fun W => show Calls Tryz.prog 38 #[.int .i64 (IntKind.i64.wrap ((IntKind.i64.wrap c).tdiv 16))] W fun e w' => e = .returned (r10V (c / 16)) ∧ Below W.heap.size W w' by rw [q1]; exact rrow_any (c / 16) hk W)
  have kx := fun W => show (Instr.index 62 (r10V (c / 16)) (.int .i64 ((IntKind.i64.wrap c).tmod 16))).run Tryz.prog W = .ok (.int .i64 (unheldM c)) W by rw [q2']; exact ix10 c hc W
  clear q1 q2' wc
  have km := Lib.hid (rmore_any c hc)
  have kn := Lib.hid (drnear_any p c hc)
  have ke := Lib.hid (tred_any (fx c) (fy c) (fz c) t bx.1 bx.2.1 bx.2.2)
  have hq := Lib.hid (show ¬ (p < 0 ∨ 6 < p) → ofM p c s t = wrap64 (netM p c t + wrap64 (4 * s)) from of_eqR p c s t)
  have hn := Lib.hid (show netM p c t = if p = 0 then plainM c t else if p = 3 ∨ p = 4 then 4 + plainM c t + reachM p c else if p = 1 then bitsCM c else if p = 5 ∨ p = 6 then bitsNM c else if p = 2 then extR (fx c) (fy c) (fz c) t else 0 from rfl)
  have hr := Lib.hid (near54 p c hc)
  have hu := Lib.hid (show plainM c t = if t then unheldM c + addedM c else unheldM c from rfl)
  have hbc := Lib.hid (show bitsCM c = if fz c = 6 then (if fx c = 1 then 12 else 15) else 8 from rfl)
  have hbn := Lib.hid (show bitsNM c = if fx c = 1 then 20 else 23 from rfl)
  have hno := Lib.hid (of_no p c s t)
  have HB1 := Lib.hid ((Below.refl w.heap.size w).alloc (Nat.le_refl _) (.cells #[.int .i64 p, .int .u8 c, .int .u8 d, .int .u16 m, .int .i64 le, .int .i64 s] 39))
  have hs := row6c (Row.new w 39 #[.int .i64 p, .int .u8 c, .int .u8 d, .int .u16 m, .int .i64 le, .int .i64 s])
  have hsz := (Row.new w 39 #[.int .i64 p, .int .u8 c, .int .u8 d, .int .u16 m, .int .i64 le, .int .i64 s]).lt
  obtain ⟨bx, bY, bz⟩ := bx
  unfold five at kf
  generalize ofM p c s t = R at *
  generalize netM p c t = n at *
  generalize plainM c t = u1 at *
  generalize reachM p c = u2 at *
  generalize bitsCM c = u3 at *
  generalize bitsNM c = u4 at *
  generalize addedM c = ad at *
  generalize unheldM c = un at *
  generalize nearM p c = nr at *
  generalize fx c = x at *
  generalize fy c = y at *
  generalize fz c = z at *
  generalize r10V (c / 16) = rv at *
  go_enter Tryz.func19, Tryz.ntmps19
  go_upto_region 2 with (first
    | (go_at_call 37; refine (kf.out _).mono ?_; rintro e w' ⟨rfl, rfl⟩))
  generalize w.alloc (.cells #[.int .i64 p, .int .u8 c, .int .u8 d, .int .u16 m, .int .i64 le, .int .i64 s] 39) = W0 at *
  go_region_held3 (fun w' => w'.cell? ⟨w.heap.size, 0, none⟩ = some (.int .i64 p) ∧ w'.cell? ⟨w.heap.size, 1, none⟩ = some (.int .u8 c) ∧ w'.cell? ⟨w.heap.size, 2, none⟩ = some (.int .u8 d) ∧ w'.cell? ⟨w.heap.size, 3, none⟩ = some (.int .u16 m) ∧ w'.cell? ⟨w.heap.size, 4, none⟩ = some (.int .i64 le) ∧ w'.cell? ⟨w.heap.size, 5, none⟩ = some (.int .i64 s))
    (first | with_reducible assumption | exact hs | with_reducible exact keep6r hb (by with_reducible assumption))
    (first
    | (go_at_call 38; refine (kr.out _).mono ?_; rintro e w4 ⟨rfl, hb⟩; have HB4 := Lib.hid (HB1.out.trans ((Below.drew (Below.refl _ W0)).trans hb |>.mono HB1.out.size))))
  clear hs hb
  rename_i hH
  obtain ⟨l0, l1, l2, l3, l4, l5⟩ := hH
  have hu2 := Lib.hid (show u1 = un + (if t then ad else 0) by rw [hu.out]; cases t <;> simp)
  clear hu
  by_cases hp : p < 0 ∨ 6 < p
  · have e := hno.out hp
    obtain ⟨n0, n1, n2, n3, n4, n5, n6⟩ := plane_no p hp
    subst e
    clear hno hq hn hp hr hu2 hbc hbn
    cases t
    all_goals
      go_wp2_with (first
        | (go_at_call 39; refine (km.out _).mono ?_; rintro e w' ⟨rfl, rfl⟩))
      go_ret
      exact ⟨rfl, HB4.out⟩
  have e0 := Lib.hid (hq.out hp)
  clear hno hq
  obtain rfl | rfl | rfl | rfl | rfl | rfl | rfl : p = 0 ∨ p = 1 ∨ p = 2 ∨ p = 3 ∨ p = 4 ∨ p = 5 ∨ p = 6 := by omega
  · obtain rfl : n = u1 := by simpa using hn.out
    clear hn hp hr hbc hbn
    cases t
    all_goals
      go_wp2_with (first
        | (go_at_call 39; refine (km.out _).mono ?_; rintro e w' ⟨rfl, rfl⟩))
      have hu3 := hu2.out
      simp only [if_true, if_false, Bool.false_eq_true] at hu3
      go_ret
      refine ⟨ret_int ?_, HB4.out⟩
      rw [e0.out]
      congr 1
      omega
  · obtain rfl : n = u3 := by simpa using hn.out
    clear hn hp hr hu2 hbn
    by_cases z6 : z = 6 <;> by_cases x1 : x = 1
    all_goals
      (try subst z6)
      (try subst x1)
      (try have z6' : (z == 6) = false := by simpa using z6)
      (try have x1' : (x == 1) = false := by simpa using x1)
      cases t
      all_goals
        go_wp2_with (first
          | (go_at_call 39; refine (km.out _).mono ?_; rintro e w' ⟨rfl, rfl⟩))
        have e3 := hbc.out
        simp only [*, if_true, if_false] at e3
        go_ret
        refine ⟨ret_int ?_, HB4.out⟩
        rw [e0.out]
        congr 1
        omega
  · obtain rfl : n = extR x y z t := by simpa using hn.out
    clear hn hp hr hu2 hbn hbc
    generalize extR x y z t = n at *
    cases t
    all_goals
      go_wp2_with (first
        | (go_at_call 39; refine (km.out _).mono ?_; rintro e w' ⟨rfl, rfl⟩)
        | (go_at_call 40; refine (ke.out _).mono ?_; rintro e w5 ⟨rfl, hb⟩; have HB5 := Lib.hid (HB4.out.trans (hb.mono HB4.out.size)); have l5b := cell_kept l5 hb))
      go_ret
      refine ⟨ret_int ?_, HB5.out⟩
      rw [e0.out]
  · obtain rfl : n = 4 + u1 + u2 := by simpa using hn.out
    have hr2 := Lib.hid (hr.out (by omega))
    clear hn hp hbn hbc hr
    by_cases c54 : c = 54
    · rw [if_pos c54] at hr2
      subst c54
      cases nr <;> cases t
      all_goals
        go_wp2_with (first
          | (go_at_call 39; refine (km.out _).mono ?_; rintro e w' ⟨rfl, rfl⟩)
          | (go_at_call 35; refine (kn.out _).mono ?_; rintro e w' ⟨rfl, rfl⟩))
        have hr3 := hr2.out
        have hu3 := hu2.out
        simp only [if_true, if_false, Bool.false_eq_true] at hr3 hu3
        go_ret
        refine ⟨ret_int ?_, HB4.out⟩
        rw [e0.out]
        congr 1
        omega
    · rw [if_neg c54] at hr2
      have c54' : (c == 54) = false := by simpa using c54
      cases nr <;> cases t
      all_goals
        go_wp2_with (first
          | (go_at_call 39; refine (km.out _).mono ?_; rintro e w' ⟨rfl, rfl⟩)
          | (go_at_call 35; refine (kn.out _).mono ?_; rintro e w' ⟨rfl, rfl⟩))
        have hr3 := hr2.out
        have hu3 := hu2.out
        simp only [if_true, if_false, Bool.false_eq_true] at hr3 hu3
        go_ret
        refine ⟨ret_int ?_, HB4.out⟩
        rw [e0.out]
        congr 1
        omega
  · obtain rfl : n = 4 + u1 + u2 := by simpa using hn.out
    have hr2 := Lib.hid (hr.out (by omega))
    clear hn hp hbn hbc hr
    by_cases c54 : c = 54
    · rw [if_pos c54] at hr2
      subst c54
      cases nr <;> cases t
      all_goals
        go_wp2_with (first
          | (go_at_call 39; refine (km.out _).mono ?_; rintro e w' ⟨rfl, rfl⟩)
          | (go_at_call 35; refine (kn.out _).mono ?_; rintro e w' ⟨rfl, rfl⟩))
        have hr3 := hr2.out
        have hu3 := hu2.out
        simp only [if_true, if_false, Bool.false_eq_true] at hr3 hu3
        go_ret
        refine ⟨ret_int ?_, HB4.out⟩
        rw [e0.out]
        congr 1
        omega
    · rw [if_neg c54] at hr2
      have c54' : (c == 54) = false := by simpa using c54
      cases nr <;> cases t
      all_goals
        go_wp2_with (first
          | (go_at_call 39; refine (km.out _).mono ?_; rintro e w' ⟨rfl, rfl⟩)
          | (go_at_call 35; refine (kn.out _).mono ?_; rintro e w' ⟨rfl, rfl⟩))
        have hr3 := hr2.out
        have hu3 := hu2.out
        simp only [if_true, if_false, Bool.false_eq_true] at hr3 hu3
        go_ret
        refine ⟨ret_int ?_, HB4.out⟩
        rw [e0.out]
        congr 1
        omega
  · obtain rfl : n = u4 := by simpa using hn.out
    clear hn hp hr hu2 hbc
    by_cases x1 : x = 1
    all_goals
      (try subst x1)
      (try have x1' : (x == 1) = false := by simpa using x1)
      cases t
      all_goals
        go_wp2_with (first
          | (go_at_call 39; refine (km.out _).mono ?_; rintro e w' ⟨rfl, rfl⟩))
        have e3 := hbn.out
        simp only [*, if_true, if_false] at e3
        go_ret
        refine ⟨ret_int ?_, HB4.out⟩
        rw [e0.out]
        congr 1
        omega
  · obtain rfl : n = u4 := by simpa using hn.out
    clear hn hp hr hu2 hbc
    by_cases x1 : x = 1
    all_goals
      (try subst x1)
      (try have x1' : (x == 1) = false := by simpa using x1)
      cases t
      all_goals
        go_wp2_with (first
          | (go_at_call 39; refine (km.out _).mono ?_; rintro e w' ⟨rfl, rfl⟩))
        have e3 := hbn.out
        simp only [*, if_true, if_false] at e3
        go_ret
        refine ⟨ret_int ?_, HB4.out⟩
        rw [e0.out]
        congr 1
        omega
end Go.Proofs.YtibmpaeaicpbcaaGreatDoor
