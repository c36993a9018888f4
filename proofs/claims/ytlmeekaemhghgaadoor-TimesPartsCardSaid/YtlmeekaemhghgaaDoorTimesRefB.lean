/- Layer 10 (times): the document's own more, ed, Of and Asks: contracts. -/
import Derived.Test.YtlmeekaemhghgaaDoorTimesRef
namespace Go.Proofs.YtlmeekaemhghgaaDoor
open Go.RowKit
set_option linter.unusedVariables false
set_option linter.unusedSimpArgs false

theorem more_fin : ∀ c : Fin 256, addedM (c.val : Int) = if (c.val : Int) = 16 ∨ (c.val : Int) = 32 ∨ (c.val : Int) = 40 ∨ (c.val : Int) = 48 ∨ (c.val : Int) = 56 then 5 else if fx (c.val : Int) = 3 ∧ fz (c.val : Int) = 0 then 6 else if fx (c.val : Int) = 3 ∧ fz (c.val : Int) = 4 then 7 else 0 := by decide +kernel
theorem more_all (c : Int) (hc : B8 c) : addedM c = if c = 16 ∨ c = 32 ∨ c = 40 ∨ c = 48 ∨ c = 56 then 5 else if fx c = 3 ∧ fz c = 0 then 6 else if fx c = 3 ∧ fz c = 4 then 7 else 0 :=
  byte_all (P := fun c => addedM c = if c = 16 ∨ c = 32 ∨ c = 40 ∨ c = 48 ∨ c = 56 then 5 else if fx c = 3 ∧ fz c = 0 then 6 else if fx c = 3 ∧ fz c = 4 then 7 else 0) more_fin c hc.1 hc.2
set_option maxHeartbeats 4000000 in
theorem rmore_any (c : Int) (hc : B8 c) (w : World) :
    Calls Tryd.prog 25 #[.int .u8 c] w fun e w' => e = .returned (.int .i64 (addedM c)) ∧ w = w' := by
  have hf := Lib.hid (rfields_any c hc)
  have hd := Lib.hid (more_all c hc)
  unfold five at hf
  generalize addedM c = A at *
  generalize fx c = x at *
  generalize fy c = y at *
  generalize fz c = z at *
  generalize fp c = p at *
  generalize fq c = q at *
  by_cases h5 : c = 16 ∨ c = 32 ∨ c = 40 ∨ c = 48 ∨ c = 56
  · have e : A = 5 := by rw [hd.out, if_pos h5]
    clear hd
    subst e
    obtain rfl | rfl | rfl | rfl | rfl := h5
    all_goals
      go_enter Tryd.func25, Tryd.ntmps25
      go_wp2_with (go_at_call 23; refine (hf.out _).mono ?_; rintro e w' ⟨rfl, rfl⟩)
      go_ret
      exact ⟨rfl, rfl⟩
  · have e1 : (c == 16) = false := by simp; omega
    have e2 : (c == 32) = false := by simp; omega
    have e3 : (c == 40) = false := by simp; omega
    have e4 : (c == 48) = false := by simp; omega
    have e5 : (c == 56) = false := by simp; omega
    have hd2 := Lib.hid (hd.out.trans (if_neg h5))
    clear hd h5
    by_cases x3 : x = 3
    · subst x3
      by_cases z0 : z = 0
      · subst z0
        have e : A = 6 := by rw [hd2.out]; simp
        clear hd2
        subst e
        go_enter Tryd.func25, Tryd.ntmps25
        go_wp2_with (go_at_call 23; refine (hf.out _).mono ?_; rintro e w' ⟨rfl, rfl⟩)
        go_ret
        exact ⟨rfl, rfl⟩
      · have z0' : (z == 0) = false := by simpa using z0
        by_cases z4 : z = 4
        · subst z4
          have e : A = 7 := by rw [hd2.out]; simp
          clear hd2
          subst e
          go_enter Tryd.func25, Tryd.ntmps25
          go_wp2_with (go_at_call 23; refine (hf.out _).mono ?_; rintro e w' ⟨rfl, rfl⟩)
          go_ret
          exact ⟨rfl, rfl⟩
        · have z4' : (z == 4) = false := by simpa using z4
          have e : A = 0 := by rw [hd2.out]; simp [z0, z4]
          clear hd2
          subst e
          go_enter Tryd.func25, Tryd.ntmps25
          go_wp2_with (go_at_call 23; refine (hf.out _).mono ?_; rintro e w' ⟨rfl, rfl⟩)
          go_ret
          exact ⟨rfl, rfl⟩
    · have x3' : (x == 3) = false := by simpa using x3
      have e : A = 0 := by rw [hd2.out]; simp [x3]
      clear hd2
      subst e
      go_enter Tryd.func25, Tryd.ntmps25
      go_wp2_with (go_at_call 23; refine (hf.out _).mono ?_; rintro e w' ⟨rfl, rfl⟩)
      go_ret
      exact ⟨rfl, rfl⟩
/-- the plane ED, by the fields -/
def extR (x y z : Int) (t : Bool) : Int := if x = 1 then (if z < 7 then singleT.getD z.toNat 0 else specialT.getD y.toNat 0) else if x = 2 ∧ z < 4 ∧ 4 ≤ y then (if t && decide (6 ≤ y) then 21 else 16) else 8
set_option maxHeartbeats 4000000 in
theorem red_any (x y z : Int) (t : Bool) (hx : 0 ≤ x ∧ x ≤ 3) (hy : 0 ≤ y ∧ y ≤ 7) (hz : 0 ≤ z ∧ z ≤ 7) (w : World) :
    Calls Tryd.prog 27 #[.int .i64 x, .int .i64 y, .int .i64 z, .bool t] w fun e w' => e = .returned (.int .i64 (extR x y z t)) ∧ Below w.heap.size w w' := by
  by_cases x1 : x = 1
  · subst x1
    obtain rfl | rfl | rfl | rfl | rfl | rfl | rfl | rfl : z = 0 ∨ z = 1 ∨ z = 2 ∨ z = 3 ∨ z = 4 ∨ z = 5 ∨ z = 6 ∨ z = 7 := by omega
    case inr.inr.inr.inr.inr.inr.inr =>
      obtain rfl | rfl | rfl | rfl | rfl | rfl | rfl | rfl : y = 0 ∨ y = 1 ∨ y = 2 ∨ y = 3 ∨ y = 4 ∨ y = 5 ∨ y = 6 ∨ y = 7 := by omega
      all_goals
        go_enter Tryd.func27, Tryd.ntmps27
        go_wp2
        go_ret
        exact ⟨rfl, (by repeat (first | exact Below.refl _ _ | assumption | refine bstep ?_ (by assumption) | refine Below.drew ?_ | refine Below.alloc ?_ (by first | (simp; done) | (simp; omega) | omega) _ | refine Below.setCell ?_ (by first | (simp; done) | (simp; omega) | omega) _))⟩
    all_goals
      go_enter Tryd.func27, Tryd.ntmps27
      go_wp2
      go_ret
      exact ⟨rfl, (by repeat (first | exact Below.refl _ _ | assumption | refine bstep ?_ (by assumption) | refine Below.drew ?_ | refine Below.alloc ?_ (by first | (simp; done) | (simp; omega) | omega) _ | refine Below.setCell ?_ (by first | (simp; done) | (simp; omega) | omega) _))⟩
  · have x1' : (x != 1) = true := by simpa using x1
    by_cases x2 : x = 2
    · subst x2
      by_cases z4 : z < 4
      · by_cases y4 : 4 ≤ y
        · have e : extR 2 y z t = (if t && decide (6 ≤ y) then 21 else 16) := by unfold extR; simp [z4, y4]
          rw [e]
          have y3 : decide (3 < y) = true := by simp; omega
          by_cases y6 : 6 ≤ y
          · have y5 : decide (5 < y) = true := by simp; omega
            rw [decide_eq_true y6]
            clear e y6
            cases t
            · simp only [Bool.false_and, Bool.false_eq_true, if_false]
              go_enter Tryd.func27, Tryd.ntmps27
              go_wp2
              go_ret
              exact ⟨rfl, (by repeat (first | exact Below.refl _ _ | assumption | refine bstep ?_ (by assumption) | refine Below.drew ?_ | refine Below.alloc ?_ (by first | (simp; done) | (simp; omega) | omega) _ | refine Below.setCell ?_ (by first | (simp; done) | (simp; omega) | omega) _))⟩
            · simp only [Bool.true_and, if_true]
              go_enter Tryd.func27, Tryd.ntmps27
              go_wp2
              go_ret
              exact ⟨rfl, (by repeat (first | exact Below.refl _ _ | assumption | refine bstep ?_ (by assumption) | refine Below.drew ?_ | refine Below.alloc ?_ (by first | (simp; done) | (simp; omega) | omega) _ | refine Below.setCell ?_ (by first | (simp; done) | (simp; omega) | omega) _))⟩
          · have y5 : decide (5 < y) = false := by simp; omega
            rw [decide_eq_false y6]
            clear e y6
            simp only [Bool.and_false, Bool.false_eq_true, if_false]
            go_enter Tryd.func27, Tryd.ntmps27
            go_wp2
            go_ret
            exact ⟨rfl, (by repeat (first | exact Below.refl _ _ | assumption | refine bstep ?_ (by assumption) | refine Below.drew ?_ | refine Below.alloc ?_ (by first | (simp; done) | (simp; omega) | omega) _ | refine Below.setCell ?_ (by first | (simp; done) | (simp; omega) | omega) _))⟩
        · have e : extR 2 y z t = 8 := by unfold extR; simp [z4, y4]
          rw [e]
          clear e
          go_enter Tryd.func27, Tryd.ntmps27
          go_wp2
          go_ret
          exact ⟨rfl, (by repeat (first | exact Below.refl _ _ | assumption | refine bstep ?_ (by assumption) | refine Below.drew ?_ | refine Below.alloc ?_ (by first | (simp; done) | (simp; omega) | omega) _ | refine Below.setCell ?_ (by first | (simp; done) | (simp; omega) | omega) _))⟩
      · have e : extR 2 y z t = 8 := by unfold extR; simp [z4]
        rw [e]
        clear e
        go_enter Tryd.func27, Tryd.ntmps27
        go_wp2
        go_ret
        exact ⟨rfl, (by repeat (first | exact Below.refl _ _ | assumption | refine bstep ?_ (by assumption) | refine Below.drew ?_ | refine Below.alloc ?_ (by first | (simp; done) | (simp; omega) | omega) _ | refine Below.setCell ?_ (by first | (simp; done) | (simp; omega) | omega) _))⟩
    · have x2' : (x == 2) = false := by simpa using x2
      have e : extR x y z t = 8 := by unfold extR; simp [x1, x2]
      rw [e]
      clear e
      go_enter Tryd.func27, Tryd.ntmps27
      go_wp2
      go_ret
      exact ⟨rfl, (by repeat (first | exact Below.refl _ _ | assumption | refine bstep ?_ (by assumption) | refine Below.drew ?_ | refine Below.alloc ?_ (by first | (simp; done) | (simp; omega) | omega) _ | refine Below.setCell ?_ (by first | (simp; done) | (simp; omega) | omega) _))⟩
end Go.Proofs.YtlmeekaemhghgaaDoor
