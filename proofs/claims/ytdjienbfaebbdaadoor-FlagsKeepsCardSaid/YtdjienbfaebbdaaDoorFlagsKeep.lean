/- Layer 2 (flags): contracts of Keep and the document's own. -/
import Derived.Test.YtdjienbfaebbdaaDoorFlagsTest
import Derived.Test.YtdjienbfaebbdaaDoorArr
namespace Go.Proofs.YtdjienbfaebbdaaDoor
open Go.RowKit
set_option linter.unusedVariables false

theorem nat8 (P : Nat → Prop) (h : P 0 ∧ P 1 ∧ P 2 ∧ P 3 ∧ P 4 ∧ P 5 ∧ P 6 ∧ P 7) (n : Nat) (hn : n < 8) : P n := by
  obtain ⟨h0, h1, h2, h3, h4, h5, h6, h7⟩ := h
  match n, hn with
  | 0, _ => exact h0
  | 1, _ => exact h1
  | 2, _ => exact h2
  | 3, _ => exact h3
  | 4, _ => exact h4
  | 5, _ => exact h5
  | 6, _ => exact h6
  | 7, _ => exact h7
theorem isM_mkM (b0 b1 b2 b3 b4 b5 b6 b7 : Bool) (n : Nat) (hn : n < 8) : isM (mkM b0 b1 b2 b3 b4 b5 b6 b7) (n : Int) = [b7, b6, b5, b4, b3, b2, b1, b0].getD n false := by
  obtain ⟨h0, h1, h2, h3, h4, h5, h6, h7⟩ := of_mkM b0 b1 b2 b3 b4 b5 b6 b7
  exact nat8 (fun n => isM (mkM b0 b1 b2 b3 b4 b5 b6 b7) (n : Int) = [b7, b6, b5, b4, b3, b2, b1, b0].getD n false) ⟨h7, h6, h5, h4, h3, h2, h1, h0⟩ n hn
theorem keep_all (f o m : Int) (h0 : 0 ≤ f) (h1 : f ≤ 255) (h2 : 0 ≤ o) (h3 : o ≤ 255) (h4 : 0 ≤ m) (h5 : m ≤ 255) :
    bits .or .u8 (bits .andNot .u8 f m) (bits .and .u8 o m) = keepM f o m := by
  have a := andNot_byte f m h0 h1 h4 h5
  have b := and_byte o m h2 h3 h4 h5
  have c := or_byte _ _ a.1 a.2 b.1 b.2
  have d := keepM_byte f o m
  refine byte_ext _ _ c.1 c.2 d.1 d.2 fun n hn => ?_
  rw [isM_or _ _ n hn a.1 a.2 b.1 b.2, isM_andNot _ _ n hn h0 h1 h4 h5, isM_and _ _ n hn h2 h3 h4 h5]
  unfold keepM
  rw [isM_mkM _ _ _ _ _ _ _ _ n hn]
  refine nat8 (fun n => ((isM f n && !isM m n) || (isM o n && isM m n)) = [_, _, _, _, _, _, _, _].getD n false) ?_ n hn
  simp only [List.getD_cons_zero, List.getD_cons_succ, sel]
  refine ⟨?_, ?_, ?_, ?_, ?_, ?_, ?_, ?_⟩
  · cases isM m 0 <;> simp
  · cases isM m 1 <;> simp
  · cases isM m 2 <;> simp
  · cases isM m 3 <;> simp
  · cases isM m 4 <;> simp
  · cases isM m 5 <;> simp
  · cases isM m 6 <;> simp
  · cases isM m 7 <;> simp
set_option maxHeartbeats 4000000 in
theorem keep_any (f o m : Int) (h0 : 0 ≤ f) (h1 : f ≤ 255) (h2 : 0 ≤ o) (h3 : o ≤ 255) (h4 : 0 ≤ m) (h5 : m ≤ 255) (w : World) :
    Calls Tryd.prog 22 #[.int .u8 f, .int .u8 o, .int .u8 m] w fun e w' => e = .returned (.int .u8 (keepM f o m)) ∧ w = w' := by
  have H := Lib.hid (keep_all f o m h0 h1 h2 h3 h4 h5)
  go_enter Tryd.func22, Tryd.ntmps22
  go_wp2
  go_ret
  exact ⟨ret_int H.out, rfl⟩

/-- the flag at a place of the eight -/
def fl (f : Int) (j : Nat) : Bool := isM f (7 - (j : Int))
theorem of8_at (f : Int) (j : Nat) (hj : j < 8) : (#[Value.bool (isM f 7), .bool (isM f 6), .bool (isM f 5), .bool (isM f 4), .bool (isM f 3), .bool (isM f 2), .bool (isM f 1), .bool (isM f 0)] : Array Value)[j]? = some (.bool (fl f j)) :=
  nat8 (fun j => (#[Value.bool (isM f 7), .bool (isM f 6), .bool (isM f 5), .bool (isM f 4), .bool (isM f 3), .bool (isM f 2), .bool (isM f 1), .bool (isM f 0)] : Array Value)[j]? = some (.bool (fl f j))) ⟨rfl, rfl, rfl, rfl, rfl, rfl, rfl, rfl⟩ j hj
theorem arr_of8 (w : World) (f : Int) (t : TypeId) : ArrIs (w.alloc (.cells #[Value.bool (isM f 7), .bool (isM f 6), .bool (isM f 5), .bool (isM f 4), .bool (isM f 3), .bool (isM f 2), .bool (isM f 1), .bool (isM f 0)] t)) w.heap.size 8 (fun j => .bool (fl f j)) :=
  ArrIs.new w _ t 0 0 _ 8 (.inr rfl) (fun j hj => of8_at f j hj)
/-- what Keep's document has gathered in k rounds -/
def kept (f o m : Int) (k j : Nat) : Bool := if j < k then sel (fl m j) (fl f j) (fl o j) else fl f j
theorem kept_yes (f o m : Int) (k j : Nat) (h : fl m k = true) : (if j = k then Value.bool (fl o k) else .bool (kept f o m k j)) = .bool (kept f o m (k + 1) j) := by
  unfold kept
  by_cases e : j = k
  · subst e; simp [sel, h]
  · by_cases l : j < k
    · rw [if_neg e, if_pos l, if_pos (by omega)]
    · rw [if_neg e, if_neg l, if_neg (by omega)]
theorem kept_no (f o m : Int) (k j : Nat) (h : fl m k = false) : kept f o m k j = kept f o m (k + 1) j := by
  unfold kept
  by_cases e : j = k
  · subst e; simp [sel, h]
  · by_cases l : j < k
    · rw [if_pos l, if_pos (by omega)]
    · rw [if_neg l, if_neg (by omega)]

set_option maxHeartbeats 4000000 in
theorem rkeep_any (f o m : Int) (h0 : 0 ≤ f) (h1 : f ≤ 255) (h2 : 0 ≤ o) (h3 : o ≤ 255) (h4 : 0 ≤ m) (h5 : m ≤ 255) (w : World) :
    Calls Tryd.prog 23 #[.int .u8 f, .int .u8 o, .int .u8 m] w fun e w' => e = .returned (.int .u8 (keepM f o m)) ∧ Below w.heap.size w w' := by
  go_enter Tryd.func23, Tryd.ntmps23
  go_wp2_with fail
  refine (rof_any _ h0 h1 _).mono ?_
  rintro e w1 ⟨rfl, hb1⟩
  have hs1 := hb1.size
  go_wp2_with fail
  refine (rof_any _ h2 h3 _).mono ?_
  rintro e w2 ⟨rfl, hb2⟩
  have hs2 := hb2.size
  have a2 := (arr_of8 w1 f 22).kept hb2
  go_wp2_with fail
  refine (rof_any _ h4 h5 _).mono ?_
  rintro e w3 ⟨rfl, hb3⟩
  have hs3 := hb3.size
  have a3 := (a2.alloc _).kept hb3
  have b3 := (arr_of8 w2 o 22).kept hb3
  have hA := Lib.hid (a3.alloc (.cells #[Value.bool (isM m 7), .bool (isM m 6), .bool (isM m 5), .bool (isM m 4), .bool (isM m 3), .bool (isM m 2), .bool (isM m 1), .bool (isM m 0)] 22))
  have hB := Lib.hid (b3.alloc (.cells #[Value.bool (isM m 7), .bool (isM m 6), .bool (isM m 5), .bool (isM m 4), .bool (isM m 3), .bool (isM m 2), .bool (isM m 1), .bool (isM m 0)] 22))
  have hM := Lib.hid (arr_of8 w3 m 22)
  have hbel : Below w.heap.size w (w3.alloc (.cells #[Value.bool (isM m 7), .bool (isM m 6), .bool (isM m 5), .bool (isM m 4), .bool (isM m 3), .bool (isM m 2), .bool (isM m 1), .bool (isM m 0)] 22)) := by
    simp only [World.size_alloc] at hs2 hs3
    exact (by repeat (first | exact Below.refl _ _ | assumption | refine bstep ?_ (by assumption) | refine Below.drew ?_ | refine Below.alloc ?_ (by first | (simp; done) | (simp; omega) | omega) _ | refine Below.setCell ?_ (by first | (simp; done) | (simp; omega) | omega) _))
  simp only [World.size_alloc] at hs2 hs3
  have hbel := Lib.hid hbel
  clear a2 a3 b3 hb1 hb2 hb3
  go_wp2_with fail
  obtain ⟨A, eA⟩ : ∃ A, A = w1.heap.size := ⟨_, rfl⟩
  obtain ⟨B, eB⟩ : ∃ A, A = w2.heap.size := ⟨_, rfl⟩
  obtain ⟨M, eM⟩ : ∃ A, A = w3.heap.size := ⟨_, rfl⟩
  have hAB : A < B := by omega
  have hBM : B < M := by omega
  have hwA : w.heap.size ≤ A := by omega
  rw [← eA] at hA
  rw [← eB] at hB
  rw [← eM] at hM
  rw [← eA, ← eB, ← eM]
  clear eA eB eM hs1 hs2 hs3
  go_loopw [10] (fun i wr => ∃ k : Nat, k ≤ 8 ∧ i = .int .i64 k ∧ ArrIs wr A 8 (fun j => .bool (kept f o m k j)) ∧ ArrIs wr B 8 (fun j => .bool (fl o j)) ∧ ArrIs wr M 8 (fun j => .bool (fl m j)) ∧ Below w.heap.size w wr) (fun i _ => 8 - (intOf i).toNat)
  case atStart => exact ⟨0, by omega, rfl, hA.out.congr (fun j hj => by simp [kept]), hB.out, hM.out, hbel.out⟩
  case round =>
    obtain ⟨k, hk, rfl, rA, rB, rM, rb⟩ := hrel
    clear hA hB hM hbel
    have RA := Lib.hid rA
    have RB := Lib.hid rB
    have RM := Lib.hid rM
    have Rb := Lib.hid rb
    clear rA rB rM rb
    by_cases hlt : k < 8
    · have hk0 : (0 : Int) ≤ (k : Int) := by omega
      have hk1 : (k : Int) < 8 := by omega
      have cM := (RM.out k hlt).1
      have cB := (RB.out k hlt).1
      have cA := (RA.out k hlt).1
      have zA := (RA.out k hlt).2
      cases hm : fl m k
      · simp only [hm] at cM
        go_wp2
        go_roundw
        case rel => exact ⟨k + 1, by omega, by go_num, RA.out.congr (fun j hj => by rw [kept_no f o m k j hm]), RB.out, RM.out, Rb.out⟩
        case measure => simp [intOf]; omega
      · simp only [hm] at cM
        go_wp2
        go_roundw
        case rel => exact ⟨k + 1, by omega, by go_num, (RA.out.set _ hlt).congr (fun j hj => kept_yes f o m k j hm), RB.out.setOther _ (by omega), RM.out.setOther _ (by omega), Rb.out.setCell (by simpa using hwA) _⟩
        case measure => simp [intOf]; omega
    · obtain rfl : k = 8 := by omega
      have q0 := (RA.out 0 (by omega)).1
      have q1 := (RA.out 1 (by omega)).1
      have q2 := (RA.out 2 (by omega)).1
      have q3 := (RA.out 3 (by omega)).1
      have q4 := (RA.out 4 (by omega)).1
      have q5 := (RA.out 5 (by omega)).1
      have q6 := (RA.out 6 (by omega)).1
      have q7 := (RA.out 7 (by omega)).1
      go_wp2_with (go_at_call 11; refine (rmake_any _ _ _ _ _ _ _ _ _).mono ?_; rintro e w' ⟨rfl, hb⟩; have hsz := hb.size)
      go_ret
      exact ⟨rfl, bstep Rb.out hb⟩
end Go.Proofs.YtdjienbfaebbdaaDoor
