/- Layer 9 (text): the forms: contracts of first, pushed, last, main, near, single, extended, form. -/
import Derived.Test.YtgdpafldhmchpaaDoorTextTabs
import Derived.Handy
import Derived.Lib.Hide
namespace Go.Proofs.YtgdpafldhmchpaaDoor
open Go.RowKit
set_option linter.unusedVariables false
set_option linter.unusedSimpArgs false

/-- an instruction whose text is made -/
abbrev shVf (pl c d m le sk x y z p q : Int) (f : Value) : Value := .agg #[.int .i64 pl, .int .u8 c, .int .u8 d, .int .u16 m, .int .i64 le, .int .i64 sk, .int .i64 x, .int .i64 y, .int .i64 z, .int .i64 p, .int .i64 q, f]
theorem ret_str {a b : ByteArray} (h : a = b) : Ending.returned (.string a) = .returned (.string b) := by rw [h]
set_option maxHeartbeats 400000 in
theorem pushed_any (pl c d m le sk x y z p q : Int) (f : Value) (w : World)  :
    Calls Tryd.prog 80 #[shVf pl c d m le sk x y z p q f] w fun e w' => e = .returned (.string (sb (pushedF p q))) ∧ Below w.heap.size w w' := by
  go_enter Tryd.func80, Tryd.ntmps80
  go_wp2
  all_goals
    go_ret
    refine ⟨ret_str ?_, (by repeat (first | exact Below.refl _ _ | assumption | refine bstep ?_ (by assumption) | refine Below.drew ?_ | refine Below.alloc ?_ (by first | (simp; done) | (simp; omega) | omega) _ | refine Below.setCell ?_ (by first | (simp; done) | (simp; omega) | omega) _))⟩
    (try simp only [beq_iff_eq, beq_eq_false_iff_ne, ne_eq] at *)
    simp only [pushedF]
    (try simp [*])
    (try rfl)
set_option maxHeartbeats 1000000 in
theorem tfirst_any (pl c d m le sk x y z p q : Int) (f : Value) (w : World) (ht : TextTabs w) (hy : 0 ≤ y ∧ y ≤ 7) (hz : 0 ≤ z ∧ z ≤ 7) (hq : 0 ≤ q ∧ q ≤ 1) :
    Calls Tryd.prog 61 #[shVf pl c d m le sk x y z p q f] w fun e w' => e = .returned (.string (sb (firstF y z q))) ∧ Below w.heap.size w w' := by
  have t1 := fun o => cell_under w o (ht.jumps.of g_jumps y hy.1 (by simp [jumpsF]; omega))
  have t2 := fun o => cell_under w o (ht.ofPairs.of g_ofPairs q hq.1 (by simp [ofPairsF]; omega))
  have t3 := fun o => cell_under w o (ht.moves.of g_moves y hy.1 (by simp [movesF]; omega))
  have t4 := fun o => cell_under w o (ht.counts.of g_counts q hq.1 (by simp [countsF]; omega))
  have t5 := fun o => cell_under w o (ht.onA.of g_onA y hy.1 (by simp [onAF]; omega))
  go_enter Tryd.func61, Tryd.ntmps61
  go_wp2
  all_goals
    go_ret
    refine ⟨ret_str ?_, (by repeat (first | exact Below.refl _ _ | assumption | refine bstep ?_ (by assumption) | refine Below.drew ?_ | refine Below.alloc ?_ (by first | (simp; done) | (simp; omega) | omega) _ | refine Below.setCell ?_ (by first | (simp; done) | (simp; omega) | omega) _))⟩
    (try simp only [beq_iff_eq, beq_eq_false_iff_ne, ne_eq] at *)
    simp only [firstF]
    (try simp [*])
    (try rfl)
set_option maxHeartbeats 1000000 in
theorem tlast_any (pl c d m le sk x y z p q : Int) (f : Value) (w : World) (ht : TextTabs w) (hy : 0 ≤ y ∧ y ≤ 7) (hz : 0 ≤ z ∧ z ≤ 7) (hp : 0 ≤ p ∧ p ≤ 3) (hq : 0 ≤ q ∧ q ≤ 1) :
    Calls Tryd.prog 62 #[shVf pl c d m le sk x y z p q f] w fun e w' => e = .returned (.string (sb (lastF y z p q))) ∧ Below w.heap.size w w' := by
  have t1 := fun o => cell_under w o (ht.returns.of g_returns p hp.1 (by simp [returnsF]; omega))
  have t2 := fun o => cell_under w o (ht.mixed.of g_mixed y hy.1 (by simp [mixedF]; omega))
  go_enter Tryd.func62, Tryd.ntmps62
  go_wp2_with (first
    | (go_at_call 80; refine (pushed_any _ _ _ _ _ _ _ _ _ _ _ _ _).mono ?_; rintro e w' ⟨rfl, hb⟩; have hsz := hb.size))
  all_goals
    go_ret
    refine ⟨ret_str ?_, (by repeat (first | exact Below.refl _ _ | assumption | refine bstep ?_ (by assumption) | refine Below.drew ?_ | refine Below.alloc ?_ (by first | (simp; done) | (simp; omega) | omega) _ | refine Below.setCell ?_ (by first | (simp; done) | (simp; omega) | omega) _))⟩
    (try simp only [beq_iff_eq, beq_eq_false_iff_ne, ne_eq] at *)
    simp only [lastF]
    (try simp [*])
    (try rfl)
set_option maxHeartbeats 1000000 in
theorem tsingle_any (pl c d m le sk x y z p q : Int) (f : Value) (w : World) (ht : TextTabs w) (hy : 0 ≤ y ∧ y ≤ 7) (hz : 0 ≤ z ∧ z ≤ 7) (hq : 0 ≤ q ∧ q ≤ 1) :
    Calls Tryd.prog 63 #[shVf pl c d m le sk x y z p q f] w fun e w' => e = .returned (.string (sb (singleF y z q))) ∧ Below w.heap.size w w' := by
  have t1 := fun o => cell_under w o (ht.carried.of g_carried q hq.1 (by simp [carriedF]; omega))
  have t2 := fun o => cell_under w o (ht.stores.of g_stores q hq.1 (by simp [storesF]; omega))
  have t3 := fun o => cell_under w o (ht.special.of g_special y hy.1 (by simp [specialF]; omega))
  go_enter Tryd.func63, Tryd.ntmps63
  go_wp2
  all_goals
    go_ret
    refine ⟨ret_str ?_, (by repeat (first | exact Below.refl _ _ | assumption | refine bstep ?_ (by assumption) | refine Below.drew ?_ | refine Below.alloc ?_ (by first | (simp; done) | (simp; omega) | omega) _ | refine Below.setCell ?_ (by first | (simp; done) | (simp; omega) | omega) _))⟩
    (try simp only [beq_iff_eq, beq_eq_false_iff_ne, ne_eq] at *)
    simp only [singleF]
    (try simp [*])
    (try rfl)
theorem onBits_size (x : Int) : (sb (pick onBitsF x)).size ≤ 6 := by
  rw [sb_size]
  unfold pick
  rcases Nat.lt_or_ge x.toNat 4 with h | h
  · have : ∀ k : Fin 4, (onBitsF.getD k.val []).length ≤ 6 := by decide
    exact this ⟨_, h⟩
  · have e : onBitsF.getD x.toNat [] = [] := by rw [List.getD_eq_getElem?_getD, List.getElem?_eq_none (by simpa [onBitsF] using h)]; rfl
    rw [e]
    decide
set_option maxHeartbeats 1000000 in
theorem tnear_any (pl c d m le sk x y z p q : Int) (f : Value) (w : World) (ht : TextTabs w) (hx : 0 ≤ x ∧ x ≤ 3) :
    Calls Tryd.prog 38 #[shVf pl c d m le sk x y z p q f] w fun e w' => e = .returned (.string (sb (nearF x z))) ∧ Below w.heap.size w w' := by
  have hs := onBits_size x
  have t1 := fun o => cell_under w o (ht.onBits.of g_onBits x hx.1 (by simp [onBitsF]; omega))
  go_enter Tryd.func38, Tryd.ntmps38
  go_wp2
  all_goals
    go_ret
    refine ⟨ret_str ?_, (by repeat (first | exact Below.refl _ _ | assumption | refine bstep ?_ (by assumption) | refine Below.drew ?_ | refine Below.alloc ?_ (by first | (simp; done) | (simp; omega) | omega) _ | refine Below.setCell ?_ (by first | (simp; done) | (simp; omega) | omega) _))⟩
    (try simp only [beq_iff_eq, beq_eq_false_iff_ne, ne_eq] at *)
    simp only [nearF]
    (try simp only [show (⟨#[73]⟩ : ByteArray) = sb [73] from rfl, show (⟨#[44, 83]⟩ : ByteArray) = sb [44, 83] from rfl, sb_app, List.append_assoc])
    (first | (rw [if_pos (show x = 1 ∨ z = 6 by omega)]) | (rw [if_neg (show ¬ (x = 1 ∨ z = 6) by omega)]))
    all_goals (try simp [*])
theorem TextTabs.alloc {w : World} (h : TextTabs w) (o : Obj) : TextTabs (w.alloc o) := h.below ((Below.refl _ w).alloc (Nat.le_refl _) o)
set_option maxHeartbeats 1000000 in
theorem textended_one (pl c d m le sk y z p q : Int) (f : Value) (w : World) (ht : TextTabs w) (hy : 0 ≤ y ∧ y ≤ 7) (hz : 0 ≤ z ∧ z ≤ 7) (hq : 0 ≤ q ∧ q ≤ 1) :
    Calls Tryd.prog 37 #[shVf pl c d m le sk 1 y z p q f] w fun e w' => e = .returned (.string (sb (extendedF 1 y z q))) ∧ Below w.heap.size w w' := by
  go_enter Tryd.func37, Tryd.ntmps37
  go_wp2_with (first
    | (go_at_call 63; refine (tsingle_any _ _ _ _ _ _ _ _ _ _ _ _ _ (ht.alloc _) (by assumption) (by assumption) (by assumption)).mono ?_; rintro e w' ⟨rfl, hb⟩; have hsz := hb.size))
  all_goals
    go_ret
    refine ⟨ret_str ?_, (by repeat (first | exact Below.refl _ _ | assumption | refine bstep ?_ (by assumption) | refine Below.drew ?_ | refine Below.alloc ?_ (by first | (simp; done) | (simp; omega) | omega) _ | refine Below.setCell ?_ (by first | (simp; done) | (simp; omega) | omega) _))⟩
    (try simp only [beq_iff_eq, beq_eq_false_iff_ne, ne_eq] at *)
    simp only [extendedF]
    (try simp [*])
    (try rfl)
set_option maxHeartbeats 8000000 in
theorem textended_two (pl c d m le sk p q : Int) (f : Value) (w : World) (ht : TextTabs w) : ∀ (z y : Fin 4),
    Calls Tryd.prog 37 #[shVf pl c d m le sk 2 (y.val + 4 : Nat) (z.val : Nat) p q f] w fun e w' => e = .returned (.string (sb (extendedF 2 (y.val + 4 : Nat) (z.val : Nat) q))) ∧ Below w.heap.size w w' := by
  have tb := fun (k : Nat) (hk : k < 16) (o : Obj) => cell_under w o (ht.blocks.at_ g_blocks k (by simpa [blocksF] using hk))
  intro z y
  have hz := z.isLt
  have hy := y.isLt
  have t := tb (z.val * 4 + y.val) (by omega)
  obtain ⟨z, _⟩ := z
  obtain ⟨y, _⟩ := y
  simp only at hz hy t ⊢
  obtain rfl | rfl | rfl | rfl : z = 0 ∨ z = 1 ∨ z = 2 ∨ z = 3 := by omega
  all_goals obtain rfl | rfl | rfl | rfl : y = 0 ∨ y = 1 ∨ y = 2 ∨ y = 3 := by omega
  all_goals
    clear tb
    simp only [Nat.reduceAdd, Nat.reduceMul, Int.cast_ofNat_Int] at t ⊢
    go_enter Tryd.func37, Tryd.ntmps37
    go_wp2
    go_region
    go_wp2
    go_ret
    exact ⟨rfl, (by repeat (first | exact Below.refl _ _ | assumption | refine bstep ?_ (by assumption) | refine Below.drew ?_ | refine Below.alloc ?_ (by first | (simp; done) | (simp; omega) | omega) _ | refine Below.setCell ?_ (by first | (simp; done) | (simp; omega) | omega) _))⟩
theorem textended_nop (pl c d m le sk x y z p q : Int) (f : Value) (w : World) (hx : x ≠ 1) (hn : ¬ (x = 2 ∧ z < 4 ∧ 4 ≤ y)) :
    Calls Tryd.prog 37 #[shVf pl c d m le sk x y z p q f] w fun e w' => e = .returned (.string (sb (extendedF x y z q))) ∧ Below w.heap.size w w' := by
  have e0 : extendedF x y z q = [110, 111, 112, 42] := by unfold extendedF; rw [if_neg hx, if_neg hn]
  rw [e0]
  have e1 : (x == 1) = false := by simpa using hx
  clear e0 hx
  by_cases h2 : x = 2
  · subst h2
    by_cases h4 : z < 4
    · have h5 : y < 4 := by omega
      clear hn
      go_enter Tryd.func37, Tryd.ntmps37
      go_wp2
      go_ret
      exact ⟨rfl, (by repeat (first | exact Below.refl _ _ | assumption | refine bstep ?_ (by assumption) | refine Below.drew ?_ | refine Below.alloc ?_ (by first | (simp; done) | (simp; omega) | omega) _ | refine Below.setCell ?_ (by first | (simp; done) | (simp; omega) | omega) _))⟩
    · have h5 : 4 ≤ z := by omega
      clear hn h4
      go_enter Tryd.func37, Tryd.ntmps37
      go_wp2
      go_ret
      exact ⟨rfl, (by repeat (first | exact Below.refl _ _ | assumption | refine bstep ?_ (by assumption) | refine Below.drew ?_ | refine Below.alloc ?_ (by first | (simp; done) | (simp; omega) | omega) _ | refine Below.setCell ?_ (by first | (simp; done) | (simp; omega) | omega) _))⟩
  · have e2 : (x == 2) = false := by simpa using h2
    clear hn h2
    go_enter Tryd.func37, Tryd.ntmps37
    go_wp2
    go_ret
    exact ⟨rfl, (by repeat (first | exact Below.refl _ _ | assumption | refine bstep ?_ (by assumption) | refine Below.drew ?_ | refine Below.alloc ?_ (by first | (simp; done) | (simp; omega) | omega) _ | refine Below.setCell ?_ (by first | (simp; done) | (simp; omega) | omega) _))⟩
theorem textended_any (pl c d m le sk x y z p q : Int) (f : Value) (w : World) (ht : TextTabs w) (hy : 0 ≤ y ∧ y ≤ 7) (hz : 0 ≤ z ∧ z ≤ 7) (hq : 0 ≤ q ∧ q ≤ 1) :
    Calls Tryd.prog 37 #[shVf pl c d m le sk x y z p q f] w fun e w' => e = .returned (.string (sb (extendedF x y z q))) ∧ Below w.heap.size w w' := by
  by_cases h1 : x = 1
  · subst h1
    exact textended_one pl c d m le sk y z p q f w ht hy hz hq
  · by_cases h2 : x = 2 ∧ z < 4 ∧ 4 ≤ y
    · have h := textended_two pl c d m le sk p q f w ht ⟨z.toNat, by omega⟩ ⟨(y - 4).toNat, by omega⟩
      simp only at h
      rw [show (((y - 4).toNat + 4 : Nat) : Int) = y by omega, show ((z.toNat : Nat) : Int) = z by omega] at h
      rw [h2.1]
      exact h
    · exact textended_nop pl c d m le sk x y z p q f w h1 h2
set_option maxHeartbeats 1000000 in
theorem tmain_any (pl c d m le sk x y z p q : Int) (f : Value) (w : World) (ht : TextTabs w) (hy : 0 ≤ y ∧ y ≤ 7) (hz : 0 ≤ z ∧ z ≤ 7) (hp : 0 ≤ p ∧ p ≤ 3) (hq : 0 ≤ q ∧ q ≤ 1) :
    Calls Tryd.prog 36 #[shVf pl c d m le sk x y z p q f] w fun e w' => e = .returned (.string (sb (mainF x y z p q))) ∧ Below w.heap.size w w' := by
  go_enter Tryd.func36, Tryd.ntmps36
  go_wp2_with (first
    | (go_at_call 61; refine (tfirst_any _ _ _ _ _ _ _ _ _ _ _ _ _ (ht.alloc _) (by assumption) (by assumption) (by assumption)).mono ?_; rintro e w' ⟨rfl, hb⟩; have hsz := hb.size)
    | (go_at_call 62; refine (tlast_any _ _ _ _ _ _ _ _ _ _ _ _ _ (ht.alloc _) (by assumption) (by assumption) (by assumption) (by assumption)).mono ?_; rintro e w' ⟨rfl, hb⟩; have hsz := hb.size))
  all_goals
    go_ret
    refine ⟨ret_str ?_, (by repeat (first | exact Below.refl _ _ | assumption | refine bstep ?_ (by assumption) | refine Below.drew ?_ | refine Below.alloc ?_ (by first | (simp; done) | (simp; omega) | omega) _ | refine Below.setCell ?_ (by first | (simp; done) | (simp; omega) | omega) _))⟩
    (try simp only [beq_iff_eq, beq_eq_false_iff_ne, ne_eq] at *)
    simp only [mainF]
    (try simp [*])
    (try rfl)
set_option maxHeartbeats 2000000 in
theorem tform_any (pl c d m le sk x y z p q : Int) (f : Value) (w : World) (ht : TextTabs w) (hx : 0 ≤ x ∧ x ≤ 3) (hy : 0 ≤ y ∧ y ≤ 7) (hz : 0 ≤ z ∧ z ≤ 7) (hp : 0 ≤ p ∧ p ≤ 3) (hq : 0 ≤ q ∧ q ≤ 1) :
    Calls Tryd.prog 17 #[shVf pl c d m le sk x y z p q f] w fun e w' => e = .returned (.string (sb (formF pl x y z p q))) ∧ Below w.heap.size w w' := by
  have hs := onBits_size x
  have t1 := fun o => cell_under w o (ht.onBits.of g_onBits x hx.1 (by simp [onBitsF]; omega))
  go_enter Tryd.func17, Tryd.ntmps17
  go_wp2_with (first
    | (go_at_call 36; refine (tmain_any _ _ _ _ _ _ _ _ _ _ _ _ _ (ht.alloc _) (by assumption) (by assumption) (by assumption) (by assumption)).mono ?_; rintro e w' ⟨rfl, hb⟩; have hsz := hb.size)
    | (go_at_call 37; refine (textended_any _ _ _ _ _ _ _ _ _ _ _ _ _ (ht.alloc _) (by assumption) (by assumption) (by assumption)).mono ?_; rintro e w' ⟨rfl, hb⟩; have hsz := hb.size)
    | (go_at_call 38; refine (tnear_any _ _ _ _ _ _ _ _ _ _ _ _ _ (ht.alloc _) (by assumption)).mono ?_; rintro e w' ⟨rfl, hb⟩; have hsz := hb.size))
  all_goals
    go_ret
    refine ⟨ret_str ?_, (by repeat (first | exact Below.refl _ _ | assumption | refine bstep ?_ (by assumption) | refine Below.drew ?_ | refine Below.alloc ?_ (by first | (simp; done) | (simp; omega) | omega) _ | refine Below.setCell ?_ (by first | (simp; done) | (simp; omega) | omega) _))⟩
    (try simp only [beq_iff_eq, beq_eq_false_iff_ne, ne_eq] at *)
    simp only [formF]
    (try simp only [show (⟨#[83]⟩ : ByteArray) = sb [83] from rfl, sb_app])
    (try simp [*])
    (try rfl)
end Go.Proofs.YtgdpafldhmchpaaDoor
