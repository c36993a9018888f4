/- Layer 2 (flags): contracts of Show and the document's own. -/
import Derived.Test.YtdjienbfaebbdaaDoorFlagsKeep
import Derived.Lib.SlBytesConst
import Derived.Lib.SlBytesRow
namespace Go.Proofs.YtdjienbfaebbdaaDoor
open Go.RowKit
set_option linter.unusedVariables false

/-- the eight letters -/
def lets : List UInt8 := [83, 90, 89, 72, 88, 80, 78, 67]
/-- the byte at place j behind k rounds -/
def shown (f : Int) (k j : Nat) : Int := if j < k ∧ fl f j = false then 45 else ((lets.getD j 0).toNat : Int)

theorem shown_start (f : Int) (j : Nat) : shown f 0 j = ((lets.getD j 0).toNat : Int) := by unfold shown; rw [if_neg (by omega)]
theorem shown_no (f : Int) (k j : Nat) (h : fl f k = false) : (if j = k then Value.int .u8 45 else .int .u8 (shown f k j)) = .int .u8 (shown f (k + 1) j) := by
  unfold shown
  by_cases e : j = k
  · subst e; simp [h]
  · by_cases l : j < k
    · rw [if_neg e]; simp [l, show j < k + 1 by omega]
    · rw [if_neg e]; simp [l, show ¬ j < k + 1 by omega]
theorem shown_yes (f : Int) (k j : Nat) (h : fl f k = true) : shown f k j = shown f (k + 1) j := by
  unfold shown
  by_cases e : j = k
  · subst e; simp [h]
  · by_cases l : j < k
    · simp [l, show j < k + 1 by omega]
    · simp [l, show ¬ j < k + 1 by omega]
def showL (f : Int) : List UInt8 := [ch (isM f 7) 83, ch (isM f 6) 90, ch (isM f 5) 89, ch (isM f 4) 72, ch (isM f 3) 88, ch (isM f 2) 80, ch (isM f 1) 78, ch (isM f 0) 67]
theorem showM_eq (f : Int) : showM f = ⟨(showL f).toArray⟩ := rfl
theorem ch_at (b : Bool) (c : UInt8) : ((ch b c).toNat : Int) = if b = false then 45 else (c.toNat : Int) := by cases b <;> simp [ch]
theorem shown_end (f : Int) (j : Nat) (hj : j < (showL f).length) : shown f 8 j = (((showL f)[j]'hj).toNat : Int) := by
  have h8 : j < 8 := by simpa [showL] using hj
  have : ∀ j, j < 8 → shown f 8 j = (((showL f).getD j 0).toNat : Int) := nat8 (fun j => shown f 8 j = (((showL f).getD j 0).toNat : Int))
    (by simp only [shown, showL, lets, fl, List.getD_cons_zero, List.getD_cons_succ, ch_at]; simp)
  rw [this j h8]
  simp [hj]
theorem back8 (f : Int) (B : Nat) (w : World) (h : ArrIs w B 8 (fun j => .int .u8 (shown f 8 j))) : (convert 38 9 (.slice (some ⟨B, 0, none⟩) 8 8)).run Tryd.prog w = .ok (.string (showM f)) w := by
  rw [showM_eq]
  refine run_convert_bytes_back (P := Tryd.prog) w 38 9 5 ⟨B, 0, none⟩ 8 (showL f) Tryd.underlying38 Tryd.underlying5 Tryd.underlying9 (fun j hj => ?_)
  have h8 : j < 8 := by simpa [showL] using hj
  rw [← shown_end f j hj]
  have e : (⟨B, 0, none⟩ : Addr).add j = ⟨B, j, none⟩ := by unfold Addr.add; split <;> simp_all
  rw [e]
  exact (h j h8).1

set_option maxHeartbeats 4000000 in
theorem show_any (f : Int) (h0 : 0 ≤ f) (h1 : f ≤ 255) (w : World) :
    Calls Tryd.prog 14 #[.int .u8 f] w fun e w' => e = .returned (.string (showM f)) ∧ Below w.heap.size w w' := by
  have hconv := Lib.run_convert_bytes_const (P := Tryd.prog) w 38 5 #[.int .u8 83, .int .u8 90, .int .u8 89, .int .u8 72, .int .u8 88, .int .u8 80, .int .u8 78, .int .u8 67] 8 8 Tryd.underlying38 Tryd.underlying5
  go_enter Tryd.func14, Tryd.ntmps14
  go_wp2_with fail
  refine (of_any _ h0 h1 _).mono ?_
  rintro e w1 ⟨rfl, hb1⟩
  clear hconv
  have hA := (ArrIs.new w #[.int .u8 83, .int .u8 90, .int .u8 89, .int .u8 72, .int .u8 88, .int .u8 80, .int .u8 78, .int .u8 67] 5 8 9 (fun j => .int .u8 (shown f 0 j)) 8 (.inl (by omega)) (fun j hj =>
    nat8 (fun j => (#[Value.int .u8 83, .int .u8 90, .int .u8 89, .int .u8 72, .int .u8 88, .int .u8 80, .int .u8 78, .int .u8 67] : Array Value)[j]? = some (.int .u8 (shown f 0 j))) (by simp only [shown_start]; simp [lets]) j hj)).kept hb1
  have hA := Lib.hid hA
  have hbel : Below w.heap.size w w1 := (((Below.refl _ w).alloc (Nat.le_refl _) _).trans (hb1.mono (by simp)))
  have hbel := Lib.hid hbel
  clear hb1
  go_wp2_with fail
  obtain ⟨B, eB⟩ : ∃ A, A = w.heap.size := ⟨_, rfl⟩
  have hwB : w.heap.size ≤ B := by omega
  rw [← eB] at hA
  rw [← eB]
  clear eB
  go_loopw [10] (fun i wr => ∃ k : Nat, k ≤ 8 ∧ i = .int .i64 k ∧ ArrIs wr B 8 (fun j => .int .u8 (shown f k j)) ∧ Below w.heap.size w wr) (fun i _ => 8 - (intOf i).toNat)
  case atStart => exact ⟨0, by omega, rfl, hA.out, hbel.out⟩
  case round =>
    obtain ⟨k, hk, rfl, rA, rb⟩ := hrel
    clear hA hbel
    have RA := Lib.hid rA
    have Rb := Lib.hid rb
    clear rA rb
    by_cases hlt : k < 8
    · have hk0 : (0 : Int) ≤ (k : Int) := by omega
      have hk1 : (k : Int) < 8 := by omega
      have hix : ∀ W, (Instr.index 22 (of8 f) (.int .i64 k)).run Tryd.prog W = .ok (.bool (fl f k)) W := fun W =>
        run_index_arr Tryd.underlying22 (by kernel_rfl) (by kernel_rfl) ⟨hk0, hk1⟩ (by simpa using of8_at f k hlt)
      have cA := (RA.out k hlt).1
      have zA := (RA.out k hlt).2
      cases hm : fl f k
      · simp only [hm] at hix
        go_wp2
        go_roundw
        case rel => exact ⟨k + 1, by omega, by go_num, (RA.out.set _ hlt).congr (fun j hj => shown_no f k j hm), Rb.out.setCell (by simpa using hwB) _⟩
        case measure => simp [intOf]; omega
      · simp only [hm] at hix
        go_wp2
        go_roundw
        case rel => exact ⟨k + 1, by omega, by go_num, RA.out.congr (fun j hj => by rw [shown_yes f k j hm]), Rb.out⟩
        case measure => simp [intOf]; omega
    · obtain rfl : k = 8 := by omega
      have hback := back8 f B wr RA.out
      go_wp2
      go_ret
      exact ⟨rfl, Rb.out⟩

/-- the text behind k rounds of the document's own -/
def shownB (f : Int) (k : Nat) : ByteArray := ⟨((showL f).take k).toArray⟩
theorem shownB_size (f : Int) (k : Nat) (hk : k ≤ 8) : (shownB f k).size = k := by
  show ((showL f).take k).toArray.size = k
  simp [showL]; omega
theorem app_bytes (a b : List UInt8) : (⟨a.toArray⟩ : ByteArray) ++ ⟨b.toArray⟩ = ⟨(a ++ b).toArray⟩ := by
  apply ByteArray.ext
  simp
theorem shownB_next (f : Int) (k : Nat) (h : k < 8) : shownB f (k + 1) = shownB f k ++ ⟨[(showL f).getD k 0].toArray⟩ := by
  unfold shownB
  rw [app_bytes, nat8 (fun k => (showL f).take (k + 1) = (showL f).take k ++ [(showL f).getD k 0]) ⟨rfl, rfl, rfl, rfl, rfl, rfl, rfl, rfl⟩ k h]
theorem showL_at (f : Int) (k : Nat) (h : k < 8) : (showL f).getD k 0 = ch (fl f k) (lets.getD k 0) :=
  nat8 (fun k => (showL f).getD k 0 = ch (fl f k) (lets.getD k 0)) ⟨rfl, rfl, rfl, rfl, rfl, rfl, rfl, rfl⟩ k h
theorem lets_cut (k : Nat) (h : k < 8) : (⟨#[83, 90, 89, 72, 88, 80, 78, 67]⟩ : ByteArray).extract k (k + 1) = ⟨[lets.getD k 0].toArray⟩ :=
  nat8 (fun k => (⟨#[83, 90, 89, 72, 88, 80, 78, 67]⟩ : ByteArray).extract k (k + 1) = ⟨[lets.getD k 0].toArray⟩) ⟨rfl, rfl, rfl, rfl, rfl, rfl, rfl, rfl⟩ k h
set_option maxHeartbeats 4000000 in
theorem rshow_any (f : Int) (h0 : 0 ≤ f) (h1 : f ≤ 255) (w : World) :
    Calls Tryd.prog 15 #[.int .u8 f] w fun e w' => e = .returned (.string (showM f)) ∧ Below w.heap.size w w' := by
  go_enter Tryd.func15, Tryd.ntmps15
  go_wp2_with fail
  refine (rof_any _ h0 h1 _).mono ?_
  rintro e w1 ⟨rfl, hb1⟩
  have hA := Lib.hid (arr_of8 w1 f 22)
  have hbel := Lib.hid (hb1.alloc hb1.size (.cells #[Value.bool (isM f 7), .bool (isM f 6), .bool (isM f 5), .bool (isM f 4), .bool (isM f 3), .bool (isM f 2), .bool (isM f 1), .bool (isM f 0)] 22))
  clear hb1
  go_wp2_with fail
  generalize hX : w1.alloc (.cells #[Value.bool (isM f 7), .bool (isM f 6), .bool (isM f 5), .bool (isM f 4), .bool (isM f 3), .bool (isM f 2), .bool (isM f 1), .bool (isM f 0)] 22) = X at hA hbel ⊢
  generalize w1.heap.size = A at hA ⊢
  clear hX
  go_loop [5, 6] (fun s i => ∃ k : Nat, k ≤ 8 ∧ i = .int .i64 k ∧ s = .string (shownB f k)) (fun _ i => 8 - (intOf i).toNat)
  case atStart => exact ⟨0, by omega, rfl, rfl⟩
  case round =>
    obtain ⟨k, hk, rfl, rfl⟩ := hrel
    have hsz : (shownB f k).size ≤ 8 := by rw [shownB_size f k hk]; exact hk
    by_cases hlt : k < 8
    · have hk0 : (0 : Int) ≤ (k : Int) := by omega
      have hk1 : (k : Int) < 8 := by omega
      have cA := (hA.out k hlt).1
      cases hm : fl f k
      · simp only [hm] at cA
        go_wp2
        go_round
        case rel => exact ⟨k + 1, by omega, by go_num, by rw [shownB_next f k hlt, showL_at f k hlt, hm]; rfl⟩
        case measure => simp [intOf]; omega
      · simp only [hm] at cA
        go_wp2
        go_round
        case rel => exact ⟨k + 1, by omega, by go_num, by rw [shownB_next f k hlt, showL_at f k hlt, hm, lets_cut k hlt]; rfl⟩
        case measure => simp [intOf]; omega
    · obtain rfl : k = 8 := by omega
      go_wp2
      go_ret
      exact ⟨rfl, hbel.out⟩
end Go.Proofs.YtdjienbfaebbdaaDoor
