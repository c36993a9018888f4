/- Layer 9 (text): the document's own: contract of ed. -/
import Derived.Test.YtgdpafldhmchpaaDoorTextRefS
namespace Go.Proofs.YtgdpafldhmchpaaDoor
open Go.RowKit
set_option linter.unusedVariables false
set_option linter.unusedSimpArgs false

set_option maxHeartbeats 8000000 in
theorem red2z0 (pl c d m le sk y p q : Int) (hy : 4 ≤ y ∧ y ≤ 7) (w : World) :
    Calls Tryd.prog 20 #[opV pl c d m le sk, .int .i64 2, .int .i64 y, .int .i64 0, .int .i64 p, .int .i64 q] w fun e w' => e = .returned (.string (sy pl d m (edT 2 y 0 p q))) ∧ Below w.heap.size w w' := by
  obtain ⟨a, b⟩ := hy
  obtain rfl | rfl | rfl | rfl : y = 4 ∨ y = 5 ∨ y = 6 ∨ y = 7 := by omega
  · go_enter Tryd.func20, Tryd.ntmps20
    go_wp2
    go_ret
    refine ⟨ret_bs ?_, (by repeat (first | exact Below.refl _ _ | assumption | refine bstep ?_ (by assumption) | refine Below.drew ?_ | refine Below.alloc ?_ (by first | (simp; done) | (simp; omega) | omega) _ | refine Below.setCell ?_ (by first | (simp; done) | (simp; omega) | omega) _))⟩
    rw [show edT 2 4 0 p q = [108, 100] ++ [105] from rfl]
    simp only [← sy_app]
    all_goals rfl
  · go_enter Tryd.func20, Tryd.ntmps20
    go_wp2
    go_ret
    refine ⟨ret_bs ?_, (by repeat (first | exact Below.refl _ _ | assumption | refine bstep ?_ (by assumption) | refine Below.drew ?_ | refine Below.alloc ?_ (by first | (simp; done) | (simp; omega) | omega) _ | refine Below.setCell ?_ (by first | (simp; done) | (simp; omega) | omega) _))⟩
    rw [show edT 2 5 0 p q = [108, 100] ++ [100] from rfl]
    simp only [← sy_app]
    all_goals rfl
  · go_enter Tryd.func20, Tryd.ntmps20
    go_wp2
    go_ret
    refine ⟨ret_bs ?_, (by repeat (first | exact Below.refl _ _ | assumption | refine bstep ?_ (by assumption) | refine Below.drew ?_ | refine Below.alloc ?_ (by first | (simp; done) | (simp; omega) | omega) _ | refine Below.setCell ?_ (by first | (simp; done) | (simp; omega) | omega) _))⟩
    rw [show edT 2 6 0 p q = [108, 100] ++ [105, 114] from rfl]
    simp only [← sy_app]
    all_goals rfl
  · go_enter Tryd.func20, Tryd.ntmps20
    go_wp2
    go_ret
    refine ⟨ret_bs ?_, (by repeat (first | exact Below.refl _ _ | assumption | refine bstep ?_ (by assumption) | refine Below.drew ?_ | refine Below.alloc ?_ (by first | (simp; done) | (simp; omega) | omega) _ | refine Below.setCell ?_ (by first | (simp; done) | (simp; omega) | omega) _))⟩
    rw [show edT 2 7 0 p q = [108, 100] ++ [100, 114] from rfl]
    simp only [← sy_app]
    all_goals rfl
set_option maxHeartbeats 8000000 in
theorem red2z1 (pl c d m le sk y p q : Int) (hy : 4 ≤ y ∧ y ≤ 7) (w : World) :
    Calls Tryd.prog 20 #[opV pl c d m le sk, .int .i64 2, .int .i64 y, .int .i64 1, .int .i64 p, .int .i64 q] w fun e w' => e = .returned (.string (sy pl d m (edT 2 y 1 p q))) ∧ Below w.heap.size w w' := by
  obtain ⟨a, b⟩ := hy
  obtain rfl | rfl | rfl | rfl : y = 4 ∨ y = 5 ∨ y = 6 ∨ y = 7 := by omega
  · go_enter Tryd.func20, Tryd.ntmps20
    go_wp2
    go_ret
    refine ⟨ret_bs ?_, (by repeat (first | exact Below.refl _ _ | assumption | refine bstep ?_ (by assumption) | refine Below.drew ?_ | refine Below.alloc ?_ (by first | (simp; done) | (simp; omega) | omega) _ | refine Below.setCell ?_ (by first | (simp; done) | (simp; omega) | omega) _))⟩
    rw [show edT 2 4 1 p q = [99, 112] ++ [105] from rfl]
    simp only [← sy_app]
    all_goals rfl
  · go_enter Tryd.func20, Tryd.ntmps20
    go_wp2
    go_ret
    refine ⟨ret_bs ?_, (by repeat (first | exact Below.refl _ _ | assumption | refine bstep ?_ (by assumption) | refine Below.drew ?_ | refine Below.alloc ?_ (by first | (simp; done) | (simp; omega) | omega) _ | refine Below.setCell ?_ (by first | (simp; done) | (simp; omega) | omega) _))⟩
    rw [show edT 2 5 1 p q = [99, 112] ++ [100] from rfl]
    simp only [← sy_app]
    all_goals rfl
  · go_enter Tryd.func20, Tryd.ntmps20
    go_wp2
    go_ret
    refine ⟨ret_bs ?_, (by repeat (first | exact Below.refl _ _ | assumption | refine bstep ?_ (by assumption) | refine Below.drew ?_ | refine Below.alloc ?_ (by first | (simp; done) | (simp; omega) | omega) _ | refine Below.setCell ?_ (by first | (simp; done) | (simp; omega) | omega) _))⟩
    rw [show edT 2 6 1 p q = [99, 112] ++ [105, 114] from rfl]
    simp only [← sy_app]
    all_goals rfl
  · go_enter Tryd.func20, Tryd.ntmps20
    go_wp2
    go_ret
    refine ⟨ret_bs ?_, (by repeat (first | exact Below.refl _ _ | assumption | refine bstep ?_ (by assumption) | refine Below.drew ?_ | refine Below.alloc ?_ (by first | (simp; done) | (simp; omega) | omega) _ | refine Below.setCell ?_ (by first | (simp; done) | (simp; omega) | omega) _))⟩
    rw [show edT 2 7 1 p q = [99, 112] ++ [100, 114] from rfl]
    simp only [← sy_app]
    all_goals rfl
set_option maxHeartbeats 8000000 in
theorem red2z2 (pl c d m le sk y p q : Int) (hy : 4 ≤ y ∧ y ≤ 7) (w : World) :
    Calls Tryd.prog 20 #[opV pl c d m le sk, .int .i64 2, .int .i64 y, .int .i64 2, .int .i64 p, .int .i64 q] w fun e w' => e = .returned (.string (sy pl d m (edT 2 y 2 p q))) ∧ Below w.heap.size w w' := by
  obtain ⟨a, b⟩ := hy
  obtain rfl | rfl | rfl | rfl : y = 4 ∨ y = 5 ∨ y = 6 ∨ y = 7 := by omega
  · go_enter Tryd.func20, Tryd.ntmps20
    go_wp2
    go_ret
    refine ⟨ret_bs ?_, (by repeat (first | exact Below.refl _ _ | assumption | refine bstep ?_ (by assumption) | refine Below.drew ?_ | refine Below.alloc ?_ (by first | (simp; done) | (simp; omega) | omega) _ | refine Below.setCell ?_ (by first | (simp; done) | (simp; omega) | omega) _))⟩
    rw [show edT 2 4 2 p q = [105, 110] ++ [105] from rfl]
    simp only [← sy_app]
    all_goals rfl
  · go_enter Tryd.func20, Tryd.ntmps20
    go_wp2
    go_ret
    refine ⟨ret_bs ?_, (by repeat (first | exact Below.refl _ _ | assumption | refine bstep ?_ (by assumption) | refine Below.drew ?_ | refine Below.alloc ?_ (by first | (simp; done) | (simp; omega) | omega) _ | refine Below.setCell ?_ (by first | (simp; done) | (simp; omega) | omega) _))⟩
    rw [show edT 2 5 2 p q = [105, 110] ++ [100] from rfl]
    simp only [← sy_app]
    all_goals rfl
  · go_enter Tryd.func20, Tryd.ntmps20
    go_wp2
    go_ret
    refine ⟨ret_bs ?_, (by repeat (first | exact Below.refl _ _ | assumption | refine bstep ?_ (by assumption) | refine Below.drew ?_ | refine Below.alloc ?_ (by first | (simp; done) | (simp; omega) | omega) _ | refine Below.setCell ?_ (by first | (simp; done) | (simp; omega) | omega) _))⟩
    rw [show edT 2 6 2 p q = [105, 110] ++ [105, 114] from rfl]
    simp only [← sy_app]
    all_goals rfl
  · go_enter Tryd.func20, Tryd.ntmps20
    go_wp2
    go_ret
    refine ⟨ret_bs ?_, (by repeat (first | exact Below.refl _ _ | assumption | refine bstep ?_ (by assumption) | refine Below.drew ?_ | refine Below.alloc ?_ (by first | (simp; done) | (simp; omega) | omega) _ | refine Below.setCell ?_ (by first | (simp; done) | (simp; omega) | omega) _))⟩
    rw [show edT 2 7 2 p q = [105, 110] ++ [100, 114] from rfl]
    simp only [← sy_app]
    all_goals rfl
set_option maxHeartbeats 8000000 in
theorem red2z3 (pl c d m le sk y p q : Int) (hy : 4 ≤ y ∧ y ≤ 7) (w : World) :
    Calls Tryd.prog 20 #[opV pl c d m le sk, .int .i64 2, .int .i64 y, .int .i64 3, .int .i64 p, .int .i64 q] w fun e w' => e = .returned (.string (sy pl d m (edT 2 y 3 p q))) ∧ Below w.heap.size w w' := by
  obtain ⟨a, b⟩ := hy
  obtain rfl | rfl | rfl | rfl : y = 4 ∨ y = 5 ∨ y = 6 ∨ y = 7 := by omega
  · go_enter Tryd.func20, Tryd.ntmps20
    go_wp2
    go_ret
    refine ⟨ret_bs ?_, (by repeat (first | exact Below.refl _ _ | assumption | refine bstep ?_ (by assumption) | refine Below.drew ?_ | refine Below.alloc ?_ (by first | (simp; done) | (simp; omega) | omega) _ | refine Below.setCell ?_ (by first | (simp; done) | (simp; omega) | omega) _))⟩
    rw [show edT 2 4 3 p q = [111, 117, 116] ++ [105] from rfl]
    simp only [← sy_app]
    all_goals rfl
  · go_enter Tryd.func20, Tryd.ntmps20
    go_wp2
    go_ret
    refine ⟨ret_bs ?_, (by repeat (first | exact Below.refl _ _ | assumption | refine bstep ?_ (by assumption) | refine Below.drew ?_ | refine Below.alloc ?_ (by first | (simp; done) | (simp; omega) | omega) _ | refine Below.setCell ?_ (by first | (simp; done) | (simp; omega) | omega) _))⟩
    rw [show edT 2 5 3 p q = [111, 117, 116] ++ [100] from rfl]
    simp only [← sy_app]
    all_goals rfl
  · go_enter Tryd.func20, Tryd.ntmps20
    go_wp2
    go_ret
    refine ⟨ret_bs ?_, (by repeat (first | exact Below.refl _ _ | assumption | refine bstep ?_ (by assumption) | refine Below.drew ?_ | refine Below.alloc ?_ (by first | (simp; done) | (simp; omega) | omega) _ | refine Below.setCell ?_ (by first | (simp; done) | (simp; omega) | omega) _))⟩
    rw [show edT 2 6 3 p q = [111, 116] ++ [105, 114] from rfl]
    simp only [← sy_app]
    all_goals rfl
  · go_enter Tryd.func20, Tryd.ntmps20
    go_wp2
    go_ret
    refine ⟨ret_bs ?_, (by repeat (first | exact Below.refl _ _ | assumption | refine bstep ?_ (by assumption) | refine Below.drew ?_ | refine Below.alloc ?_ (by first | (simp; done) | (simp; omega) | omega) _ | refine Below.setCell ?_ (by first | (simp; done) | (simp; omega) | omega) _))⟩
    rw [show edT 2 7 3 p q = [111, 116] ++ [100, 114] from rfl]
    simp only [← sy_app]
    all_goals rfl
set_option maxHeartbeats 8000000 in
theorem red2n (pl c d m le sk y z p q : Int) (hz : 4 ≤ z) (w : World) :
    Calls Tryd.prog 20 #[opV pl c d m le sk, .int .i64 2, .int .i64 y, .int .i64 z, .int .i64 p, .int .i64 q] w fun e w' => e = .returned (.string (sy pl d m (edT 2 y z p q))) ∧ Below w.heap.size w w' := by
  have HE : edT 2 y z p q = [110, 111, 112, 42] := by unfold edT; rw [if_neg (by omega), if_pos (by omega)]
  have HE0 := HE
  clear HE
  have HE := Lib.hid HE0
  clear HE0
  go_enter Tryd.func20, Tryd.ntmps20
  go_wp2
  go_ret
  refine ⟨ret_bs ?_, (by repeat (first | exact Below.refl _ _ | assumption | refine bstep ?_ (by assumption) | refine Below.drew ?_ | refine Below.alloc ?_ (by first | (simp; done) | (simp; omega) | omega) _ | refine Below.setCell ?_ (by first | (simp; done) | (simp; omega) | omega) _))⟩
  rw [HE.out]
  all_goals rfl
set_option maxHeartbeats 8000000 in
theorem red2m (pl c d m le sk y z p q : Int) (hz : z < 4) (hy : y ≤ 3) (w : World) :
    Calls Tryd.prog 20 #[opV pl c d m le sk, .int .i64 2, .int .i64 y, .int .i64 z, .int .i64 p, .int .i64 q] w fun e w' => e = .returned (.string (sy pl d m (edT 2 y z p q))) ∧ Below w.heap.size w w' := by
  have HE : edT 2 y z p q = [110, 111, 112, 42] := by unfold edT; rw [if_neg (by omega), if_pos (by omega)]
  have HE0 := HE
  clear HE
  have HE := Lib.hid HE0
  clear HE0
  go_enter Tryd.func20, Tryd.ntmps20
  go_wp2
  go_ret
  refine ⟨ret_bs ?_, (by repeat (first | exact Below.refl _ _ | assumption | refine bstep ?_ (by assumption) | refine Below.drew ?_ | refine Below.alloc ?_ (by first | (simp; done) | (simp; omega) | omega) _ | refine Below.setCell ?_ (by first | (simp; done) | (simp; omega) | omega) _))⟩
  rw [HE.out]
  all_goals rfl
set_option maxHeartbeats 8000000 in
theorem red0 (pl c d m le sk y z p q : Int)  (w : World) :
    Calls Tryd.prog 20 #[opV pl c d m le sk, .int .i64 0, .int .i64 y, .int .i64 z, .int .i64 p, .int .i64 q] w fun e w' => e = .returned (.string (sy pl d m (edT 0 y z p q))) ∧ Below w.heap.size w w' := by
  have HE : edT 0 y z p q = [110, 111, 112, 42] := by unfold edT; rw [if_neg (by omega), if_pos (by omega)]
  have HE0 := HE
  clear HE
  have HE := Lib.hid HE0
  clear HE0
  go_enter Tryd.func20, Tryd.ntmps20
  go_wp2
  go_ret
  refine ⟨ret_bs ?_, (by repeat (first | exact Below.refl _ _ | assumption | refine bstep ?_ (by assumption) | refine Below.drew ?_ | refine Below.alloc ?_ (by first | (simp; done) | (simp; omega) | omega) _ | refine Below.setCell ?_ (by first | (simp; done) | (simp; omega) | omega) _))⟩
  rw [HE.out]
  all_goals rfl
set_option maxHeartbeats 8000000 in
theorem red3 (pl c d m le sk y z p q : Int)  (w : World) :
    Calls Tryd.prog 20 #[opV pl c d m le sk, .int .i64 3, .int .i64 y, .int .i64 z, .int .i64 p, .int .i64 q] w fun e w' => e = .returned (.string (sy pl d m (edT 3 y z p q))) ∧ Below w.heap.size w w' := by
  have HE : edT 3 y z p q = [110, 111, 112, 42] := by unfold edT; rw [if_neg (by omega), if_pos (by omega)]
  have HE0 := HE
  clear HE
  have HE := Lib.hid HE0
  clear HE0
  go_enter Tryd.func20, Tryd.ntmps20
  go_wp2
  go_ret
  refine ⟨ret_bs ?_, (by repeat (first | exact Below.refl _ _ | assumption | refine bstep ?_ (by assumption) | refine Below.drew ?_ | refine Below.alloc ?_ (by first | (simp; done) | (simp; omega) | omega) _ | refine Below.setCell ?_ (by first | (simp; done) | (simp; omega) | omega) _))⟩
  rw [HE.out]
  all_goals rfl
set_option maxHeartbeats 8000000 in
theorem red1z0 (pl c d m le sk y p q : Int) (h0 : 0 ≤ m) (h1 : m ≤ 65535) (hy : 0 ≤ y ∧ y ≤ 7) (hp : 0 ≤ p ∧ p ≤ 3) (hq : 0 ≤ q ∧ q ≤ 1) (w : World) :
    Calls Tryd.prog 20 #[opV pl c d m le sk, .int .i64 1, .int .i64 y, .int .i64 0, .int .i64 p, .int .i64 q] w fun e w' => e = .returned (.string (sy pl d m (edT 1 y 0 p q))) ∧ Below w.heap.size w w' := by
  by_cases h : y = 6
  · subst h
    have kg := fun W => rreg0_any 6 hy W
    have zG := pick_size regN (by decide) 6
    have hGG := pick_sy pl d m regN (by decide) 6
    generalize sb (pick regN 6) = RG at *
    have KG := Lib.hid kg
    have HG := Lib.hid hGG
    have kp := fun W => rpair0_any p hp W
    have zP := pick_size pairN (by decide) p
    have hPP := pick_sy pl d m pairN (by decide) p
    generalize sb (pick pairN p) = RP at *
    have KP := Lib.hid kp
    have HP := Lib.hid hPP
    have kw := fun W => rnn_any pl c d m le sk h0 h1 W
    have zW := sy_size pl d m [257]
    generalize hRW : sy pl d m [257] = RW at *
    have HW := Lib.hid hRW
    have zW2 : RW.size ≤ 8 := by simpa using zW
    have KW := Lib.hid kw
    clear kg hGG kp hPP kw hRW zW
    go_enter Tryd.func20, Tryd.ntmps20
    go_wp2_with fail
    refine (KG.out _).mono ?_
    rintro e w1 ⟨rfl, hb1⟩
    have r1 := (Row.new w 24 #[.int .i64 pl, .int .u8 c, .int .u8 d, .int .u16 m, .int .i64 le, .int .i64 sk]).below hb1 (by simp)
    have HB1 := Lib.hid (((Below.refl _ w).alloc (Nat.le_refl _) _).trans (hb1.mono (by simp)))
    have hsz := r1.lt
    have R1 := Lib.hid r1
    clear hb1 r1
    go_wp2_with fail
    refine (KP.out _).mono ?_
    rintro e w2 ⟨rfl, hb2⟩
    have r2 := R1.out.below hb2 hsz
    have HB2 := Lib.hid (HB1.out.trans (hb2.mono HB1.out.size))
    obtain ⟨o0, o1, o2, o3, o4, o5⟩ := row6c r2
    have hsz2 := r2.lt
    clear hb2 r2
    go_wp2
    go_ret
    refine ⟨ret_bs ?_, by first | exact HB2.out | exact HB2.out.trans (hb.mono HB2.out.size) | exact HB2.out.alloc HB2.out.size _⟩
    rw [show edT 1 6 0 p q = [105, 110, 32] ++ [102] ++ [44, 40, 99, 41] from rfl]
    (try simp only [← sy_app, HG.out, HP.out, HW.out])
    all_goals rfl
  · have HE : edT 1 y 0 p q = [105, 110, 32] ++ pick regN y ++ [44, 40, 99, 41] := by unfold edT; simp only [h, if_false, false_and, and_false, Int.reduceEq, ne_eq, not_true_eq_false, if_true]
    have HE0 := HE
    clear HE
    have HE := Lib.hid HE0
    clear HE0
    have hyb : (y == 6) = false := by simpa using h
    clear h
    have kg := fun W => rreg0_any y hy W
    have zG := pick_size regN (by decide) y
    have hGG := pick_sy pl d m regN (by decide) y
    generalize sb (pick regN y) = RG at *
    have KG := Lib.hid kg
    have HG := Lib.hid hGG
    have kp := fun W => rpair0_any p hp W
    have zP := pick_size pairN (by decide) p
    have hPP := pick_sy pl d m pairN (by decide) p
    generalize sb (pick pairN p) = RP at *
    have KP := Lib.hid kp
    have HP := Lib.hid hPP
    have kw := fun W => rnn_any pl c d m le sk h0 h1 W
    have zW := sy_size pl d m [257]
    generalize hRW : sy pl d m [257] = RW at *
    have HW := Lib.hid hRW
    have zW2 : RW.size ≤ 8 := by simpa using zW
    have KW := Lib.hid kw
    clear kg hGG kp hPP kw hRW zW
    go_enter Tryd.func20, Tryd.ntmps20
    go_wp2_with fail
    refine (KG.out _).mono ?_
    rintro e w1 ⟨rfl, hb1⟩
    have r1 := (Row.new w 24 #[.int .i64 pl, .int .u8 c, .int .u8 d, .int .u16 m, .int .i64 le, .int .i64 sk]).below hb1 (by simp)
    have HB1 := Lib.hid (((Below.refl _ w).alloc (Nat.le_refl _) _).trans (hb1.mono (by simp)))
    have hsz := r1.lt
    have R1 := Lib.hid r1
    clear hb1 r1
    go_wp2_with fail
    refine (KP.out _).mono ?_
    rintro e w2 ⟨rfl, hb2⟩
    have r2 := R1.out.below hb2 hsz
    have HB2 := Lib.hid (HB1.out.trans (hb2.mono HB1.out.size))
    obtain ⟨o0, o1, o2, o3, o4, o5⟩ := row6c r2
    have hsz2 := r2.lt
    clear hb2 r2
    go_wp2
    go_ret
    refine ⟨ret_bs ?_, by first | exact HB2.out | exact HB2.out.trans (hb.mono HB2.out.size) | exact HB2.out.alloc HB2.out.size _⟩
    rw [show edT 1 y 0 p q = [105, 110, 32] ++ pick regN y ++ [44, 40, 99, 41] from HE.out]
    (try simp only [← sy_app, HG.out, HP.out, HW.out])
    all_goals rfl
set_option maxHeartbeats 8000000 in
theorem red1z1 (pl c d m le sk y p q : Int) (h0 : 0 ≤ m) (h1 : m ≤ 65535) (hy : 0 ≤ y ∧ y ≤ 7) (hp : 0 ≤ p ∧ p ≤ 3) (hq : 0 ≤ q ∧ q ≤ 1) (w : World) :
    Calls Tryd.prog 20 #[opV pl c d m le sk, .int .i64 1, .int .i64 y, .int .i64 1, .int .i64 p, .int .i64 q] w fun e w' => e = .returned (.string (sy pl d m (edT 1 y 1 p q))) ∧ Below w.heap.size w w' := by
  by_cases h : y = 6
  · subst h
    have kg := fun W => rreg0_any 6 hy W
    have zG := pick_size regN (by decide) 6
    have hGG := pick_sy pl d m regN (by decide) 6
    generalize sb (pick regN 6) = RG at *
    have KG := Lib.hid kg
    have HG := Lib.hid hGG
    have kp := fun W => rpair0_any p hp W
    have zP := pick_size pairN (by decide) p
    have hPP := pick_sy pl d m pairN (by decide) p
    generalize sb (pick pairN p) = RP at *
    have KP := Lib.hid kp
    have HP := Lib.hid hPP
    have kw := fun W => rnn_any pl c d m le sk h0 h1 W
    have zW := sy_size pl d m [257]
    generalize hRW : sy pl d m [257] = RW at *
    have HW := Lib.hid hRW
    have zW2 : RW.size ≤ 8 := by simpa using zW
    have KW := Lib.hid kw
    clear kg hGG kp hPP kw hRW zW
    go_enter Tryd.func20, Tryd.ntmps20
    go_wp2_with fail
    refine (KG.out _).mono ?_
    rintro e w1 ⟨rfl, hb1⟩
    have r1 := (Row.new w 24 #[.int .i64 pl, .int .u8 c, .int .u8 d, .int .u16 m, .int .i64 le, .int .i64 sk]).below hb1 (by simp)
    have HB1 := Lib.hid (((Below.refl _ w).alloc (Nat.le_refl _) _).trans (hb1.mono (by simp)))
    have hsz := r1.lt
    have R1 := Lib.hid r1
    clear hb1 r1
    go_wp2_with fail
    refine (KP.out _).mono ?_
    rintro e w2 ⟨rfl, hb2⟩
    have r2 := R1.out.below hb2 hsz
    have HB2 := Lib.hid (HB1.out.trans (hb2.mono HB1.out.size))
    obtain ⟨o0, o1, o2, o3, o4, o5⟩ := row6c r2
    have hsz2 := r2.lt
    clear hb2 r2
    go_wp2
    go_ret
    refine ⟨ret_bs ?_, by first | exact HB2.out | exact HB2.out.trans (hb.mono HB2.out.size) | exact HB2.out.alloc HB2.out.size _⟩
    rw [show edT 1 6 1 p q = [111, 117, 116, 32, 40, 99, 41, 44] ++ [48] from rfl]
    (try simp only [← sy_app, HG.out, HP.out, HW.out])
    all_goals rfl
  · have HE : edT 1 y 1 p q = [111, 117, 116, 32, 40, 99, 41, 44] ++ pick regN y := by unfold edT; simp only [h, if_false, false_and, and_false, Int.reduceEq, ne_eq, not_true_eq_false, if_true]
    have HE0 := HE
    clear HE
    have HE := Lib.hid HE0
    clear HE0
    have hyb : (y == 6) = false := by simpa using h
    clear h
    have kg := fun W => rreg0_any y hy W
    have zG := pick_size regN (by decide) y
    have hGG := pick_sy pl d m regN (by decide) y
    generalize sb (pick regN y) = RG at *
    have KG := Lib.hid kg
    have HG := Lib.hid hGG
    have kp := fun W => rpair0_any p hp W
    have zP := pick_size pairN (by decide) p
    have hPP := pick_sy pl d m pairN (by decide) p
    generalize sb (pick pairN p) = RP at *
    have KP := Lib.hid kp
    have HP := Lib.hid hPP
    have kw := fun W => rnn_any pl c d m le sk h0 h1 W
    have zW := sy_size pl d m [257]
    generalize hRW : sy pl d m [257] = RW at *
    have HW := Lib.hid hRW
    have zW2 : RW.size ≤ 8 := by simpa using zW
    have KW := Lib.hid kw
    clear kg hGG kp hPP kw hRW zW
    go_enter Tryd.func20, Tryd.ntmps20
    go_wp2_with fail
    refine (KG.out _).mono ?_
    rintro e w1 ⟨rfl, hb1⟩
    have r1 := (Row.new w 24 #[.int .i64 pl, .int .u8 c, .int .u8 d, .int .u16 m, .int .i64 le, .int .i64 sk]).below hb1 (by simp)
    have HB1 := Lib.hid (((Below.refl _ w).alloc (Nat.le_refl _) _).trans (hb1.mono (by simp)))
    have hsz := r1.lt
    have R1 := Lib.hid r1
    clear hb1 r1
    go_wp2_with fail
    refine (KP.out _).mono ?_
    rintro e w2 ⟨rfl, hb2⟩
    have r2 := R1.out.below hb2 hsz
    have HB2 := Lib.hid (HB1.out.trans (hb2.mono HB1.out.size))
    obtain ⟨o0, o1, o2, o3, o4, o5⟩ := row6c r2
    have hsz2 := r2.lt
    clear hb2 r2
    go_wp2
    go_ret
    refine ⟨ret_bs ?_, by first | exact HB2.out | exact HB2.out.trans (hb.mono HB2.out.size) | exact HB2.out.alloc HB2.out.size _⟩
    rw [show edT 1 y 1 p q = [111, 117, 116, 32, 40, 99, 41, 44] ++ pick regN y from HE.out]
    (try simp only [← sy_app, HG.out, HP.out, HW.out])
    all_goals rfl
set_option maxHeartbeats 8000000 in
theorem red1z2 (pl c d m le sk y p q : Int) (h0 : 0 ≤ m) (h1 : m ≤ 65535) (hy : 0 ≤ y ∧ y ≤ 7) (hp : 0 ≤ p ∧ p ≤ 3) (hq : 0 ≤ q ∧ q ≤ 1) (w : World) :
    Calls Tryd.prog 20 #[opV pl c d m le sk, .int .i64 1, .int .i64 y, .int .i64 2, .int .i64 p, .int .i64 q] w fun e w' => e = .returned (.string (sy pl d m (edT 1 y 2 p q))) ∧ Below w.heap.size w w' := by
  obtain rfl | rfl : q = 0 ∨ q = 1 := by omega
  · have kg := fun W => rreg0_any y hy W
    have zG := pick_size regN (by decide) y
    have hGG := pick_sy pl d m regN (by decide) y
    generalize sb (pick regN y) = RG at *
    have KG := Lib.hid kg
    have HG := Lib.hid hGG
    have kp := fun W => rpair0_any p hp W
    have zP := pick_size pairN (by decide) p
    have hPP := pick_sy pl d m pairN (by decide) p
    generalize sb (pick pairN p) = RP at *
    have KP := Lib.hid kp
    have HP := Lib.hid hPP
    have kw := fun W => rnn_any pl c d m le sk h0 h1 W
    have zW := sy_size pl d m [257]
    generalize hRW : sy pl d m [257] = RW at *
    have HW := Lib.hid hRW
    have zW2 : RW.size ≤ 8 := by simpa using zW
    have KW := Lib.hid kw
    clear kg hGG kp hPP kw hRW zW
    go_enter Tryd.func20, Tryd.ntmps20
    go_wp2_with fail
    refine (KG.out _).mono ?_
    rintro e w1 ⟨rfl, hb1⟩
    have r1 := (Row.new w 24 #[.int .i64 pl, .int .u8 c, .int .u8 d, .int .u16 m, .int .i64 le, .int .i64 sk]).below hb1 (by simp)
    have HB1 := Lib.hid (((Below.refl _ w).alloc (Nat.le_refl _) _).trans (hb1.mono (by simp)))
    have hsz := r1.lt
    have R1 := Lib.hid r1
    clear hb1 r1
    go_wp2_with fail
    refine (KP.out _).mono ?_
    rintro e w2 ⟨rfl, hb2⟩
    have r2 := R1.out.below hb2 hsz
    have HB2 := Lib.hid (HB1.out.trans (hb2.mono HB1.out.size))
    obtain ⟨o0, o1, o2, o3, o4, o5⟩ := row6c r2
    have hsz2 := r2.lt
    clear hb2 r2
    go_wp2
    go_ret
    refine ⟨ret_bs ?_, by first | exact HB2.out | exact HB2.out.trans (hb.mono HB2.out.size) | exact HB2.out.alloc HB2.out.size _⟩
    rw [show edT 1 y 2 p 0 = [115, 98, 99, 32, 104, 108, 44] ++ pick pairN p from rfl]
    (try simp only [← sy_app, HG.out, HP.out, HW.out])
    all_goals rfl
  · have kg := fun W => rreg0_any y hy W
    have zG := pick_size regN (by decide) y
    have hGG := pick_sy pl d m regN (by decide) y
    generalize sb (pick regN y) = RG at *
    have KG := Lib.hid kg
    have HG := Lib.hid hGG
    have kp := fun W => rpair0_any p hp W
    have zP := pick_size pairN (by decide) p
    have hPP := pick_sy pl d m pairN (by decide) p
    generalize sb (pick pairN p) = RP at *
    have KP := Lib.hid kp
    have HP := Lib.hid hPP
    have kw := fun W => rnn_any pl c d m le sk h0 h1 W
    have zW := sy_size pl d m [257]
    generalize hRW : sy pl d m [257] = RW at *
    have HW := Lib.hid hRW
    have zW2 : RW.size ≤ 8 := by simpa using zW
    have KW := Lib.hid kw
    clear kg hGG kp hPP kw hRW zW
    go_enter Tryd.func20, Tryd.ntmps20
    go_wp2_with fail
    refine (KG.out _).mono ?_
    rintro e w1 ⟨rfl, hb1⟩
    have r1 := (Row.new w 24 #[.int .i64 pl, .int .u8 c, .int .u8 d, .int .u16 m, .int .i64 le, .int .i64 sk]).below hb1 (by simp)
    have HB1 := Lib.hid (((Below.refl _ w).alloc (Nat.le_refl _) _).trans (hb1.mono (by simp)))
    have hsz := r1.lt
    have R1 := Lib.hid r1
    clear hb1 r1
    go_wp2_with fail
    refine (KP.out _).mono ?_
    rintro e w2 ⟨rfl, hb2⟩
    have r2 := R1.out.below hb2 hsz
    have HB2 := Lib.hid (HB1.out.trans (hb2.mono HB1.out.size))
    obtain ⟨o0, o1, o2, o3, o4, o5⟩ := row6c r2
    have hsz2 := r2.lt
    clear hb2 r2
    go_wp2
    go_ret
    refine ⟨ret_bs ?_, by first | exact HB2.out | exact HB2.out.trans (hb.mono HB2.out.size) | exact HB2.out.alloc HB2.out.size _⟩
    rw [show edT 1 y 2 p 1 = [97, 100, 99, 32, 104, 108, 44] ++ pick pairN p from rfl]
    (try simp only [← sy_app, HG.out, HP.out, HW.out])
    all_goals rfl
set_option maxHeartbeats 8000000 in
theorem red1z3 (pl c d m le sk y p q : Int) (h0 : 0 ≤ m) (h1 : m ≤ 65535) (hy : 0 ≤ y ∧ y ≤ 7) (hp : 0 ≤ p ∧ p ≤ 3) (hq : 0 ≤ q ∧ q ≤ 1) (w : World) :
    Calls Tryd.prog 20 #[opV pl c d m le sk, .int .i64 1, .int .i64 y, .int .i64 3, .int .i64 p, .int .i64 q] w fun e w' => e = .returned (.string (sy pl d m (edT 1 y 3 p q))) ∧ Below w.heap.size w w' := by
  obtain rfl | rfl : q = 0 ∨ q = 1 := by omega
  · have kg := fun W => rreg0_any y hy W
    have zG := pick_size regN (by decide) y
    have hGG := pick_sy pl d m regN (by decide) y
    generalize sb (pick regN y) = RG at *
    have KG := Lib.hid kg
    have HG := Lib.hid hGG
    have kp := fun W => rpair0_any p hp W
    have zP := pick_size pairN (by decide) p
    have hPP := pick_sy pl d m pairN (by decide) p
    generalize sb (pick pairN p) = RP at *
    have KP := Lib.hid kp
    have HP := Lib.hid hPP
    have kw := fun W => rnn_any pl c d m le sk h0 h1 W
    have zW := sy_size pl d m [257]
    generalize hRW : sy pl d m [257] = RW at *
    have HW := Lib.hid hRW
    have zW2 : RW.size ≤ 8 := by simpa using zW
    have KW := Lib.hid kw
    clear kg hGG kp hPP kw hRW zW
    go_enter Tryd.func20, Tryd.ntmps20
    go_wp2_with fail
    refine (KG.out _).mono ?_
    rintro e w1 ⟨rfl, hb1⟩
    have r1 := (Row.new w 24 #[.int .i64 pl, .int .u8 c, .int .u8 d, .int .u16 m, .int .i64 le, .int .i64 sk]).below hb1 (by simp)
    have HB1 := Lib.hid (((Below.refl _ w).alloc (Nat.le_refl _) _).trans (hb1.mono (by simp)))
    have hsz := r1.lt
    have R1 := Lib.hid r1
    clear hb1 r1
    go_wp2_with fail
    refine (KP.out _).mono ?_
    rintro e w2 ⟨rfl, hb2⟩
    have r2 := R1.out.below hb2 hsz
    have HB2 := Lib.hid (HB1.out.trans (hb2.mono HB1.out.size))
    obtain ⟨o0, o1, o2, o3, o4, o5⟩ := row6c r2
    have hsz2 := r2.lt
    clear hb2 r2
    go_wp2_with (first
      | (go_at_call 43; refine (KW.out _).mono ?_; rintro e w' ⟨rfl, hb⟩; have hsz := hb.size))
    go_ret
    refine ⟨ret_bs ?_, by first | exact HB2.out | exact HB2.out.trans (hb.mono HB2.out.size) | exact HB2.out.alloc HB2.out.size _⟩
    rw [show edT 1 y 3 p 0 = [108, 100, 32, 40] ++ [257] ++ [41, 44] ++ pick pairN p from rfl]
    (try simp only [← sy_app, HG.out, HP.out, HW.out])
    all_goals rfl
  · have kg := fun W => rreg0_any y hy W
    have zG := pick_size regN (by decide) y
    have hGG := pick_sy pl d m regN (by decide) y
    generalize sb (pick regN y) = RG at *
    have KG := Lib.hid kg
    have HG := Lib.hid hGG
    have kp := fun W => rpair0_any p hp W
    have zP := pick_size pairN (by decide) p
    have hPP := pick_sy pl d m pairN (by decide) p
    generalize sb (pick pairN p) = RP at *
    have KP := Lib.hid kp
    have HP := Lib.hid hPP
    have kw := fun W => rnn_any pl c d m le sk h0 h1 W
    have zW := sy_size pl d m [257]
    generalize hRW : sy pl d m [257] = RW at *
    have HW := Lib.hid hRW
    have zW2 : RW.size ≤ 8 := by simpa using zW
    have KW := Lib.hid kw
    clear kg hGG kp hPP kw hRW zW
    go_enter Tryd.func20, Tryd.ntmps20
    go_wp2_with fail
    refine (KG.out _).mono ?_
    rintro e w1 ⟨rfl, hb1⟩
    have r1 := (Row.new w 24 #[.int .i64 pl, .int .u8 c, .int .u8 d, .int .u16 m, .int .i64 le, .int .i64 sk]).below hb1 (by simp)
    have HB1 := Lib.hid (((Below.refl _ w).alloc (Nat.le_refl _) _).trans (hb1.mono (by simp)))
    have hsz := r1.lt
    have R1 := Lib.hid r1
    clear hb1 r1
    go_wp2_with fail
    refine (KP.out _).mono ?_
    rintro e w2 ⟨rfl, hb2⟩
    have r2 := R1.out.below hb2 hsz
    have HB2 := Lib.hid (HB1.out.trans (hb2.mono HB1.out.size))
    obtain ⟨o0, o1, o2, o3, o4, o5⟩ := row6c r2
    have hsz2 := r2.lt
    clear hb2 r2
    go_wp2_with (first
      | (go_at_call 43; refine (KW.out _).mono ?_; rintro e w' ⟨rfl, hb⟩; have hsz := hb.size))
    go_ret
    refine ⟨ret_bs ?_, by first | exact HB2.out | exact HB2.out.trans (hb.mono HB2.out.size) | exact HB2.out.alloc HB2.out.size _⟩
    rw [show edT 1 y 3 p 1 = [108, 100, 32] ++ pick pairN p ++ [44, 40] ++ [257] ++ [41] from rfl]
    (try simp only [← sy_app, HG.out, HP.out, HW.out])
    all_goals rfl
set_option maxHeartbeats 8000000 in
theorem red1z4 (pl c d m le sk y p q : Int) (h0 : 0 ≤ m) (h1 : m ≤ 65535) (hy : 0 ≤ y ∧ y ≤ 7) (hp : 0 ≤ p ∧ p ≤ 3) (hq : 0 ≤ q ∧ q ≤ 1) (w : World) :
    Calls Tryd.prog 20 #[opV pl c d m le sk, .int .i64 1, .int .i64 y, .int .i64 4, .int .i64 p, .int .i64 q] w fun e w' => e = .returned (.string (sy pl d m (edT 1 y 4 p q))) ∧ Below w.heap.size w w' := by
  have kg := fun W => rreg0_any y hy W
  have zG := pick_size regN (by decide) y
  have hGG := pick_sy pl d m regN (by decide) y
  generalize sb (pick regN y) = RG at *
  have KG := Lib.hid kg
  have HG := Lib.hid hGG
  have kp := fun W => rpair0_any p hp W
  have zP := pick_size pairN (by decide) p
  have hPP := pick_sy pl d m pairN (by decide) p
  generalize sb (pick pairN p) = RP at *
  have KP := Lib.hid kp
  have HP := Lib.hid hPP
  have kw := fun W => rnn_any pl c d m le sk h0 h1 W
  have zW := sy_size pl d m [257]
  generalize hRW : sy pl d m [257] = RW at *
  have HW := Lib.hid hRW
  have zW2 : RW.size ≤ 8 := by simpa using zW
  have KW := Lib.hid kw
  clear kg hGG kp hPP kw hRW zW
  go_enter Tryd.func20, Tryd.ntmps20
  go_wp2_with fail
  refine (KG.out _).mono ?_
  rintro e w1 ⟨rfl, hb1⟩
  have r1 := (Row.new w 24 #[.int .i64 pl, .int .u8 c, .int .u8 d, .int .u16 m, .int .i64 le, .int .i64 sk]).below hb1 (by simp)
  have HB1 := Lib.hid (((Below.refl _ w).alloc (Nat.le_refl _) _).trans (hb1.mono (by simp)))
  have hsz := r1.lt
  have R1 := Lib.hid r1
  clear hb1 r1
  go_wp2_with fail
  refine (KP.out _).mono ?_
  rintro e w2 ⟨rfl, hb2⟩
  have r2 := R1.out.below hb2 hsz
  have HB2 := Lib.hid (HB1.out.trans (hb2.mono HB1.out.size))
  obtain ⟨o0, o1, o2, o3, o4, o5⟩ := row6c r2
  have hsz2 := r2.lt
  clear hb2 r2
  go_wp2
  go_ret
  refine ⟨ret_bs ?_, by first | exact HB2.out | exact HB2.out.trans (hb.mono HB2.out.size) | exact HB2.out.alloc HB2.out.size _⟩
  rw [show edT 1 y 4 p q = [110, 101, 103] from rfl]
  (try simp only [← sy_app, HG.out, HP.out, HW.out])
  all_goals rfl
set_option maxHeartbeats 8000000 in
theorem red1z5 (pl c d m le sk y p q : Int) (h0 : 0 ≤ m) (h1 : m ≤ 65535) (hy : 0 ≤ y ∧ y ≤ 7) (hp : 0 ≤ p ∧ p ≤ 3) (hq : 0 ≤ q ∧ q ≤ 1) (w : World) :
    Calls Tryd.prog 20 #[opV pl c d m le sk, .int .i64 1, .int .i64 y, .int .i64 5, .int .i64 p, .int .i64 q] w fun e w' => e = .returned (.string (sy pl d m (edT 1 y 5 p q))) ∧ Below w.heap.size w w' := by
  by_cases h : y = 1
  · subst h
    have kg := fun W => rreg0_any 1 hy W
    have zG := pick_size regN (by decide) 1
    have hGG := pick_sy pl d m regN (by decide) 1
    generalize sb (pick regN 1) = RG at *
    have KG := Lib.hid kg
    have HG := Lib.hid hGG
    have kp := fun W => rpair0_any p hp W
    have zP := pick_size pairN (by decide) p
    have hPP := pick_sy pl d m pairN (by decide) p
    generalize sb (pick pairN p) = RP at *
    have KP := Lib.hid kp
    have HP := Lib.hid hPP
    have kw := fun W => rnn_any pl c d m le sk h0 h1 W
    have zW := sy_size pl d m [257]
    generalize hRW : sy pl d m [257] = RW at *
    have HW := Lib.hid hRW
    have zW2 : RW.size ≤ 8 := by simpa using zW
    have KW := Lib.hid kw
    clear kg hGG kp hPP kw hRW zW
    go_enter Tryd.func20, Tryd.ntmps20
    go_wp2_with fail
    refine (KG.out _).mono ?_
    rintro e w1 ⟨rfl, hb1⟩
    have r1 := (Row.new w 24 #[.int .i64 pl, .int .u8 c, .int .u8 d, .int .u16 m, .int .i64 le, .int .i64 sk]).below hb1 (by simp)
    have HB1 := Lib.hid (((Below.refl _ w).alloc (Nat.le_refl _) _).trans (hb1.mono (by simp)))
    have hsz := r1.lt
    have R1 := Lib.hid r1
    clear hb1 r1
    go_wp2_with fail
    refine (KP.out _).mono ?_
    rintro e w2 ⟨rfl, hb2⟩
    have r2 := R1.out.below hb2 hsz
    have HB2 := Lib.hid (HB1.out.trans (hb2.mono HB1.out.size))
    obtain ⟨o0, o1, o2, o3, o4, o5⟩ := row6c r2
    have hsz2 := r2.lt
    clear hb2 r2
    go_wp2
    go_ret
    refine ⟨ret_bs ?_, by first | exact HB2.out | exact HB2.out.trans (hb.mono HB2.out.size) | exact HB2.out.alloc HB2.out.size _⟩
    rw [show edT 1 1 5 p q = [114, 101, 116, 105] from rfl]
    (try simp only [← sy_app, HG.out, HP.out, HW.out])
    all_goals rfl
  · have HE : edT 1 y 5 p q = [114, 101, 116, 110] := by unfold edT; simp only [h, if_false, false_and, and_false, Int.reduceEq, ne_eq, not_true_eq_false, if_true]
    have HE0 := HE
    clear HE
    have HE := Lib.hid HE0
    clear HE0
    have hyb : (y == 1) = false := by simpa using h
    clear h
    have kg := fun W => rreg0_any y hy W
    have zG := pick_size regN (by decide) y
    have hGG := pick_sy pl d m regN (by decide) y
    generalize sb (pick regN y) = RG at *
    have KG := Lib.hid kg
    have HG := Lib.hid hGG
    have kp := fun W => rpair0_any p hp W
    have zP := pick_size pairN (by decide) p
    have hPP := pick_sy pl d m pairN (by decide) p
    generalize sb (pick pairN p) = RP at *
    have KP := Lib.hid kp
    have HP := Lib.hid hPP
    have kw := fun W => rnn_any pl c d m le sk h0 h1 W
    have zW := sy_size pl d m [257]
    generalize hRW : sy pl d m [257] = RW at *
    have HW := Lib.hid hRW
    have zW2 : RW.size ≤ 8 := by simpa using zW
    have KW := Lib.hid kw
    clear kg hGG kp hPP kw hRW zW
    go_enter Tryd.func20, Tryd.ntmps20
    go_wp2_with fail
    refine (KG.out _).mono ?_
    rintro e w1 ⟨rfl, hb1⟩
    have r1 := (Row.new w 24 #[.int .i64 pl, .int .u8 c, .int .u8 d, .int .u16 m, .int .i64 le, .int .i64 sk]).below hb1 (by simp)
    have HB1 := Lib.hid (((Below.refl _ w).alloc (Nat.le_refl _) _).trans (hb1.mono (by simp)))
    have hsz := r1.lt
    have R1 := Lib.hid r1
    clear hb1 r1
    go_wp2_with fail
    refine (KP.out _).mono ?_
    rintro e w2 ⟨rfl, hb2⟩
    have r2 := R1.out.below hb2 hsz
    have HB2 := Lib.hid (HB1.out.trans (hb2.mono HB1.out.size))
    obtain ⟨o0, o1, o2, o3, o4, o5⟩ := row6c r2
    have hsz2 := r2.lt
    clear hb2 r2
    go_wp2
    go_ret
    refine ⟨ret_bs ?_, by first | exact HB2.out | exact HB2.out.trans (hb.mono HB2.out.size) | exact HB2.out.alloc HB2.out.size _⟩
    rw [show edT 1 y 5 p q = [114, 101, 116, 110] from HE.out]
    (try simp only [← sy_app, HG.out, HP.out, HW.out])
    all_goals rfl
set_option maxHeartbeats 8000000 in
theorem red1z6 (pl c d m le sk y p q : Int) (h0 : 0 ≤ m) (h1 : m ≤ 65535) (hy : 0 ≤ y ∧ y ≤ 7) (hp : 0 ≤ p ∧ p ≤ 3) (hq : 0 ≤ q ∧ q ≤ 1) (w : World) :
    Calls Tryd.prog 20 #[opV pl c d m le sk, .int .i64 1, .int .i64 y, .int .i64 6, .int .i64 p, .int .i64 q] w fun e w' => e = .returned (.string (sy pl d m (edT 1 y 6 p q))) ∧ Below w.heap.size w w' := by
  rcases eight y hy with rfl | rfl | rfl | rfl | rfl | rfl | rfl | rfl
  · have kg := fun W => rreg0_any 0 hy W
    have zG := pick_size regN (by decide) 0
    have hGG := pick_sy pl d m regN (by decide) 0
    generalize sb (pick regN 0) = RG at *
    have KG := Lib.hid kg
    have HG := Lib.hid hGG
    have kp := fun W => rpair0_any p hp W
    have zP := pick_size pairN (by decide) p
    have hPP := pick_sy pl d m pairN (by decide) p
    generalize sb (pick pairN p) = RP at *
    have KP := Lib.hid kp
    have HP := Lib.hid hPP
    have kw := fun W => rnn_any pl c d m le sk h0 h1 W
    have zW := sy_size pl d m [257]
    generalize hRW : sy pl d m [257] = RW at *
    have HW := Lib.hid hRW
    have zW2 : RW.size ≤ 8 := by simpa using zW
    have KW := Lib.hid kw
    clear kg hGG kp hPP kw hRW zW
    go_enter Tryd.func20, Tryd.ntmps20
    go_wp2_with fail
    refine (KG.out _).mono ?_
    rintro e w1 ⟨rfl, hb1⟩
    have r1 := (Row.new w 24 #[.int .i64 pl, .int .u8 c, .int .u8 d, .int .u16 m, .int .i64 le, .int .i64 sk]).below hb1 (by simp)
    have HB1 := Lib.hid (((Below.refl _ w).alloc (Nat.le_refl _) _).trans (hb1.mono (by simp)))
    have hsz := r1.lt
    have R1 := Lib.hid r1
    clear hb1 r1
    go_wp2_with fail
    refine (KP.out _).mono ?_
    rintro e w2 ⟨rfl, hb2⟩
    have r2 := R1.out.below hb2 hsz
    have HB2 := Lib.hid (HB1.out.trans (hb2.mono HB1.out.size))
    obtain ⟨o0, o1, o2, o3, o4, o5⟩ := row6c r2
    have hsz2 := r2.lt
    clear hb2 r2
    go_wp2
    go_ret
    refine ⟨ret_bs ?_, by first | exact HB2.out | exact HB2.out.trans (hb.mono HB2.out.size) | exact HB2.out.alloc HB2.out.size _⟩
    rw [show edT 1 0 6 p q = [105, 109, 32] ++ [48] from rfl]
    (try simp only [← sy_app, HG.out, HP.out, HW.out])
    all_goals rfl
  · have kg := fun W => rreg0_any 1 hy W
    have zG := pick_size regN (by decide) 1
    have hGG := pick_sy pl d m regN (by decide) 1
    generalize sb (pick regN 1) = RG at *
    have KG := Lib.hid kg
    have HG := Lib.hid hGG
    have kp := fun W => rpair0_any p hp W
    have zP := pick_size pairN (by decide) p
    have hPP := pick_sy pl d m pairN (by decide) p
    generalize sb (pick pairN p) = RP at *
    have KP := Lib.hid kp
    have HP := Lib.hid hPP
    have kw := fun W => rnn_any pl c d m le sk h0 h1 W
    have zW := sy_size pl d m [257]
    generalize hRW : sy pl d m [257] = RW at *
    have HW := Lib.hid hRW
    have zW2 : RW.size ≤ 8 := by simpa using zW
    have KW := Lib.hid kw
    clear kg hGG kp hPP kw hRW zW
    go_enter Tryd.func20, Tryd.ntmps20
    go_wp2_with fail
    refine (KG.out _).mono ?_
    rintro e w1 ⟨rfl, hb1⟩
    have r1 := (Row.new w 24 #[.int .i64 pl, .int .u8 c, .int .u8 d, .int .u16 m, .int .i64 le, .int .i64 sk]).below hb1 (by simp)
    have HB1 := Lib.hid (((Below.refl _ w).alloc (Nat.le_refl _) _).trans (hb1.mono (by simp)))
    have hsz := r1.lt
    have R1 := Lib.hid r1
    clear hb1 r1
    go_wp2_with fail
    refine (KP.out _).mono ?_
    rintro e w2 ⟨rfl, hb2⟩
    have r2 := R1.out.below hb2 hsz
    have HB2 := Lib.hid (HB1.out.trans (hb2.mono HB1.out.size))
    obtain ⟨o0, o1, o2, o3, o4, o5⟩ := row6c r2
    have hsz2 := r2.lt
    clear hb2 r2
    go_wp2
    go_ret
    refine ⟨ret_bs ?_, by first | exact HB2.out | exact HB2.out.trans (hb.mono HB2.out.size) | exact HB2.out.alloc HB2.out.size _⟩
    rw [show edT 1 1 6 p q = [105, 109, 32] ++ [48] from rfl]
    (try simp only [← sy_app, HG.out, HP.out, HW.out])
    all_goals rfl
  · have kg := fun W => rreg0_any 2 hy W
    have zG := pick_size regN (by decide) 2
    have hGG := pick_sy pl d m regN (by decide) 2
    generalize sb (pick regN 2) = RG at *
    have KG := Lib.hid kg
    have HG := Lib.hid hGG
    have kp := fun W => rpair0_any p hp W
    have zP := pick_size pairN (by decide) p
    have hPP := pick_sy pl d m pairN (by decide) p
    generalize sb (pick pairN p) = RP at *
    have KP := Lib.hid kp
    have HP := Lib.hid hPP
    have kw := fun W => rnn_any pl c d m le sk h0 h1 W
    have zW := sy_size pl d m [257]
    generalize hRW : sy pl d m [257] = RW at *
    have HW := Lib.hid hRW
    have zW2 : RW.size ≤ 8 := by simpa using zW
    have KW := Lib.hid kw
    clear kg hGG kp hPP kw hRW zW
    go_enter Tryd.func20, Tryd.ntmps20
    go_wp2_with fail
    refine (KG.out _).mono ?_
    rintro e w1 ⟨rfl, hb1⟩
    have r1 := (Row.new w 24 #[.int .i64 pl, .int .u8 c, .int .u8 d, .int .u16 m, .int .i64 le, .int .i64 sk]).below hb1 (by simp)
    have HB1 := Lib.hid (((Below.refl _ w).alloc (Nat.le_refl _) _).trans (hb1.mono (by simp)))
    have hsz := r1.lt
    have R1 := Lib.hid r1
    clear hb1 r1
    go_wp2_with fail
    refine (KP.out _).mono ?_
    rintro e w2 ⟨rfl, hb2⟩
    have r2 := R1.out.below hb2 hsz
    have HB2 := Lib.hid (HB1.out.trans (hb2.mono HB1.out.size))
    obtain ⟨o0, o1, o2, o3, o4, o5⟩ := row6c r2
    have hsz2 := r2.lt
    clear hb2 r2
    go_wp2
    go_ret
    refine ⟨ret_bs ?_, by first | exact HB2.out | exact HB2.out.trans (hb.mono HB2.out.size) | exact HB2.out.alloc HB2.out.size _⟩
    rw [show edT 1 2 6 p q = [105, 109, 32] ++ [49] from rfl]
    (try simp only [← sy_app, HG.out, HP.out, HW.out])
    all_goals rfl
  · have kg := fun W => rreg0_any 3 hy W
    have zG := pick_size regN (by decide) 3
    have hGG := pick_sy pl d m regN (by decide) 3
    generalize sb (pick regN 3) = RG at *
    have KG := Lib.hid kg
    have HG := Lib.hid hGG
    have kp := fun W => rpair0_any p hp W
    have zP := pick_size pairN (by decide) p
    have hPP := pick_sy pl d m pairN (by decide) p
    generalize sb (pick pairN p) = RP at *
    have KP := Lib.hid kp
    have HP := Lib.hid hPP
    have kw := fun W => rnn_any pl c d m le sk h0 h1 W
    have zW := sy_size pl d m [257]
    generalize hRW : sy pl d m [257] = RW at *
    have HW := Lib.hid hRW
    have zW2 : RW.size ≤ 8 := by simpa using zW
    have KW := Lib.hid kw
    clear kg hGG kp hPP kw hRW zW
    go_enter Tryd.func20, Tryd.ntmps20
    go_wp2_with fail
    refine (KG.out _).mono ?_
    rintro e w1 ⟨rfl, hb1⟩
    have r1 := (Row.new w 24 #[.int .i64 pl, .int .u8 c, .int .u8 d, .int .u16 m, .int .i64 le, .int .i64 sk]).below hb1 (by simp)
    have HB1 := Lib.hid (((Below.refl _ w).alloc (Nat.le_refl _) _).trans (hb1.mono (by simp)))
    have hsz := r1.lt
    have R1 := Lib.hid r1
    clear hb1 r1
    go_wp2_with fail
    refine (KP.out _).mono ?_
    rintro e w2 ⟨rfl, hb2⟩
    have r2 := R1.out.below hb2 hsz
    have HB2 := Lib.hid (HB1.out.trans (hb2.mono HB1.out.size))
    obtain ⟨o0, o1, o2, o3, o4, o5⟩ := row6c r2
    have hsz2 := r2.lt
    clear hb2 r2
    go_wp2
    go_ret
    refine ⟨ret_bs ?_, by first | exact HB2.out | exact HB2.out.trans (hb.mono HB2.out.size) | exact HB2.out.alloc HB2.out.size _⟩
    rw [show edT 1 3 6 p q = [105, 109, 32] ++ [50] from rfl]
    (try simp only [← sy_app, HG.out, HP.out, HW.out])
    all_goals rfl
  · have kg := fun W => rreg0_any 4 hy W
    have zG := pick_size regN (by decide) 4
    have hGG := pick_sy pl d m regN (by decide) 4
    generalize sb (pick regN 4) = RG at *
    have KG := Lib.hid kg
    have HG := Lib.hid hGG
    have kp := fun W => rpair0_any p hp W
    have zP := pick_size pairN (by decide) p
    have hPP := pick_sy pl d m pairN (by decide) p
    generalize sb (pick pairN p) = RP at *
    have KP := Lib.hid kp
    have HP := Lib.hid hPP
    have kw := fun W => rnn_any pl c d m le sk h0 h1 W
    have zW := sy_size pl d m [257]
    generalize hRW : sy pl d m [257] = RW at *
    have HW := Lib.hid hRW
    have zW2 : RW.size ≤ 8 := by simpa using zW
    have KW := Lib.hid kw
    clear kg hGG kp hPP kw hRW zW
    go_enter Tryd.func20, Tryd.ntmps20
    go_wp2_with fail
    refine (KG.out _).mono ?_
    rintro e w1 ⟨rfl, hb1⟩
    have r1 := (Row.new w 24 #[.int .i64 pl, .int .u8 c, .int .u8 d, .int .u16 m, .int .i64 le, .int .i64 sk]).below hb1 (by simp)
    have HB1 := Lib.hid (((Below.refl _ w).alloc (Nat.le_refl _) _).trans (hb1.mono (by simp)))
    have hsz := r1.lt
    have R1 := Lib.hid r1
    clear hb1 r1
    go_wp2_with fail
    refine (KP.out _).mono ?_
    rintro e w2 ⟨rfl, hb2⟩
    have r2 := R1.out.below hb2 hsz
    have HB2 := Lib.hid (HB1.out.trans (hb2.mono HB1.out.size))
    obtain ⟨o0, o1, o2, o3, o4, o5⟩ := row6c r2
    have hsz2 := r2.lt
    clear hb2 r2
    go_wp2
    go_ret
    refine ⟨ret_bs ?_, by first | exact HB2.out | exact HB2.out.trans (hb.mono HB2.out.size) | exact HB2.out.alloc HB2.out.size _⟩
    rw [show edT 1 4 6 p q = [105, 109, 32] ++ [48] from rfl]
    (try simp only [← sy_app, HG.out, HP.out, HW.out])
    all_goals rfl
  · have kg := fun W => rreg0_any 5 hy W
    have zG := pick_size regN (by decide) 5
    have hGG := pick_sy pl d m regN (by decide) 5
    generalize sb (pick regN 5) = RG at *
    have KG := Lib.hid kg
    have HG := Lib.hid hGG
    have kp := fun W => rpair0_any p hp W
    have zP := pick_size pairN (by decide) p
    have hPP := pick_sy pl d m pairN (by decide) p
    generalize sb (pick pairN p) = RP at *
    have KP := Lib.hid kp
    have HP := Lib.hid hPP
    have kw := fun W => rnn_any pl c d m le sk h0 h1 W
    have zW := sy_size pl d m [257]
    generalize hRW : sy pl d m [257] = RW at *
    have HW := Lib.hid hRW
    have zW2 : RW.size ≤ 8 := by simpa using zW
    have KW := Lib.hid kw
    clear kg hGG kp hPP kw hRW zW
    go_enter Tryd.func20, Tryd.ntmps20
    go_wp2_with fail
    refine (KG.out _).mono ?_
    rintro e w1 ⟨rfl, hb1⟩
    have r1 := (Row.new w 24 #[.int .i64 pl, .int .u8 c, .int .u8 d, .int .u16 m, .int .i64 le, .int .i64 sk]).below hb1 (by simp)
    have HB1 := Lib.hid (((Below.refl _ w).alloc (Nat.le_refl _) _).trans (hb1.mono (by simp)))
    have hsz := r1.lt
    have R1 := Lib.hid r1
    clear hb1 r1
    go_wp2_with fail
    refine (KP.out _).mono ?_
    rintro e w2 ⟨rfl, hb2⟩
    have r2 := R1.out.below hb2 hsz
    have HB2 := Lib.hid (HB1.out.trans (hb2.mono HB1.out.size))
    obtain ⟨o0, o1, o2, o3, o4, o5⟩ := row6c r2
    have hsz2 := r2.lt
    clear hb2 r2
    go_wp2
    go_ret
    refine ⟨ret_bs ?_, by first | exact HB2.out | exact HB2.out.trans (hb.mono HB2.out.size) | exact HB2.out.alloc HB2.out.size _⟩
    rw [show edT 1 5 6 p q = [105, 109, 32] ++ [48] from rfl]
    (try simp only [← sy_app, HG.out, HP.out, HW.out])
    all_goals rfl
  · have kg := fun W => rreg0_any 6 hy W
    have zG := pick_size regN (by decide) 6
    have hGG := pick_sy pl d m regN (by decide) 6
    generalize sb (pick regN 6) = RG at *
    have KG := Lib.hid kg
    have HG := Lib.hid hGG
    have kp := fun W => rpair0_any p hp W
    have zP := pick_size pairN (by decide) p
    have hPP := pick_sy pl d m pairN (by decide) p
    generalize sb (pick pairN p) = RP at *
    have KP := Lib.hid kp
    have HP := Lib.hid hPP
    have kw := fun W => rnn_any pl c d m le sk h0 h1 W
    have zW := sy_size pl d m [257]
    generalize hRW : sy pl d m [257] = RW at *
    have HW := Lib.hid hRW
    have zW2 : RW.size ≤ 8 := by simpa using zW
    have KW := Lib.hid kw
    clear kg hGG kp hPP kw hRW zW
    go_enter Tryd.func20, Tryd.ntmps20
    go_wp2_with fail
    refine (KG.out _).mono ?_
    rintro e w1 ⟨rfl, hb1⟩
    have r1 := (Row.new w 24 #[.int .i64 pl, .int .u8 c, .int .u8 d, .int .u16 m, .int .i64 le, .int .i64 sk]).below hb1 (by simp)
    have HB1 := Lib.hid (((Below.refl _ w).alloc (Nat.le_refl _) _).trans (hb1.mono (by simp)))
    have hsz := r1.lt
    have R1 := Lib.hid r1
    clear hb1 r1
    go_wp2_with fail
    refine (KP.out _).mono ?_
    rintro e w2 ⟨rfl, hb2⟩
    have r2 := R1.out.below hb2 hsz
    have HB2 := Lib.hid (HB1.out.trans (hb2.mono HB1.out.size))
    obtain ⟨o0, o1, o2, o3, o4, o5⟩ := row6c r2
    have hsz2 := r2.lt
    clear hb2 r2
    go_wp2
    go_ret
    refine ⟨ret_bs ?_, by first | exact HB2.out | exact HB2.out.trans (hb.mono HB2.out.size) | exact HB2.out.alloc HB2.out.size _⟩
    rw [show edT 1 6 6 p q = [105, 109, 32] ++ [49] from rfl]
    (try simp only [← sy_app, HG.out, HP.out, HW.out])
    all_goals rfl
  · have kg := fun W => rreg0_any 7 hy W
    have zG := pick_size regN (by decide) 7
    have hGG := pick_sy pl d m regN (by decide) 7
    generalize sb (pick regN 7) = RG at *
    have KG := Lib.hid kg
    have HG := Lib.hid hGG
    have kp := fun W => rpair0_any p hp W
    have zP := pick_size pairN (by decide) p
    have hPP := pick_sy pl d m pairN (by decide) p
    generalize sb (pick pairN p) = RP at *
    have KP := Lib.hid kp
    have HP := Lib.hid hPP
    have kw := fun W => rnn_any pl c d m le sk h0 h1 W
    have zW := sy_size pl d m [257]
    generalize hRW : sy pl d m [257] = RW at *
    have HW := Lib.hid hRW
    have zW2 : RW.size ≤ 8 := by simpa using zW
    have KW := Lib.hid kw
    clear kg hGG kp hPP kw hRW zW
    go_enter Tryd.func20, Tryd.ntmps20
    go_wp2_with fail
    refine (KG.out _).mono ?_
    rintro e w1 ⟨rfl, hb1⟩
    have r1 := (Row.new w 24 #[.int .i64 pl, .int .u8 c, .int .u8 d, .int .u16 m, .int .i64 le, .int .i64 sk]).below hb1 (by simp)
    have HB1 := Lib.hid (((Below.refl _ w).alloc (Nat.le_refl _) _).trans (hb1.mono (by simp)))
    have hsz := r1.lt
    have R1 := Lib.hid r1
    clear hb1 r1
    go_wp2_with fail
    refine (KP.out _).mono ?_
    rintro e w2 ⟨rfl, hb2⟩
    have r2 := R1.out.below hb2 hsz
    have HB2 := Lib.hid (HB1.out.trans (hb2.mono HB1.out.size))
    obtain ⟨o0, o1, o2, o3, o4, o5⟩ := row6c r2
    have hsz2 := r2.lt
    clear hb2 r2
    go_wp2
    go_ret
    refine ⟨ret_bs ?_, by first | exact HB2.out | exact HB2.out.trans (hb.mono HB2.out.size) | exact HB2.out.alloc HB2.out.size _⟩
    rw [show edT 1 7 6 p q = [105, 109, 32] ++ [50] from rfl]
    (try simp only [← sy_app, HG.out, HP.out, HW.out])
    all_goals rfl
set_option maxHeartbeats 8000000 in
theorem red1z7 (pl c d m le sk y p q : Int) (h0 : 0 ≤ m) (h1 : m ≤ 65535) (hy : 0 ≤ y ∧ y ≤ 7) (hp : 0 ≤ p ∧ p ≤ 3) (hq : 0 ≤ q ∧ q ≤ 1) (w : World) :
    Calls Tryd.prog 20 #[opV pl c d m le sk, .int .i64 1, .int .i64 y, .int .i64 7, .int .i64 p, .int .i64 q] w fun e w' => e = .returned (.string (sy pl d m (edT 1 y 7 p q))) ∧ Below w.heap.size w w' := by
  rcases eight y hy with rfl | rfl | rfl | rfl | rfl | rfl | rfl | rfl
  · have kg := fun W => rreg0_any 0 hy W
    have zG := pick_size regN (by decide) 0
    have hGG := pick_sy pl d m regN (by decide) 0
    generalize sb (pick regN 0) = RG at *
    have KG := Lib.hid kg
    have HG := Lib.hid hGG
    have kp := fun W => rpair0_any p hp W
    have zP := pick_size pairN (by decide) p
    have hPP := pick_sy pl d m pairN (by decide) p
    generalize sb (pick pairN p) = RP at *
    have KP := Lib.hid kp
    have HP := Lib.hid hPP
    have kw := fun W => rnn_any pl c d m le sk h0 h1 W
    have zW := sy_size pl d m [257]
    generalize hRW : sy pl d m [257] = RW at *
    have HW := Lib.hid hRW
    have zW2 : RW.size ≤ 8 := by simpa using zW
    have KW := Lib.hid kw
    clear kg hGG kp hPP kw hRW zW
    go_enter Tryd.func20, Tryd.ntmps20
    go_wp2_with fail
    refine (KG.out _).mono ?_
    rintro e w1 ⟨rfl, hb1⟩
    have r1 := (Row.new w 24 #[.int .i64 pl, .int .u8 c, .int .u8 d, .int .u16 m, .int .i64 le, .int .i64 sk]).below hb1 (by simp)
    have HB1 := Lib.hid (((Below.refl _ w).alloc (Nat.le_refl _) _).trans (hb1.mono (by simp)))
    have hsz := r1.lt
    have R1 := Lib.hid r1
    clear hb1 r1
    go_wp2_with fail
    refine (KP.out _).mono ?_
    rintro e w2 ⟨rfl, hb2⟩
    have r2 := R1.out.below hb2 hsz
    have HB2 := Lib.hid (HB1.out.trans (hb2.mono HB1.out.size))
    obtain ⟨o0, o1, o2, o3, o4, o5⟩ := row6c r2
    have hsz2 := r2.lt
    clear hb2 r2
    go_wp2
    go_ret
    refine ⟨ret_bs ?_, by first | exact HB2.out | exact HB2.out.trans (hb.mono HB2.out.size) | exact HB2.out.alloc HB2.out.size _⟩
    rw [show edT 1 0 7 p q = [108, 100, 32, 105, 44, 97] from rfl]
    (try simp only [← sy_app, HG.out, HP.out, HW.out])
    all_goals rfl
  · have kg := fun W => rreg0_any 1 hy W
    have zG := pick_size regN (by decide) 1
    have hGG := pick_sy pl d m regN (by decide) 1
    generalize sb (pick regN 1) = RG at *
    have KG := Lib.hid kg
    have HG := Lib.hid hGG
    have kp := fun W => rpair0_any p hp W
    have zP := pick_size pairN (by decide) p
    have hPP := pick_sy pl d m pairN (by decide) p
    generalize sb (pick pairN p) = RP at *
    have KP := Lib.hid kp
    have HP := Lib.hid hPP
    have kw := fun W => rnn_any pl c d m le sk h0 h1 W
    have zW := sy_size pl d m [257]
    generalize hRW : sy pl d m [257] = RW at *
    have HW := Lib.hid hRW
    have zW2 : RW.size ≤ 8 := by simpa using zW
    have KW := Lib.hid kw
    clear kg hGG kp hPP kw hRW zW
    go_enter Tryd.func20, Tryd.ntmps20
    go_wp2_with fail
    refine (KG.out _).mono ?_
    rintro e w1 ⟨rfl, hb1⟩
    have r1 := (Row.new w 24 #[.int .i64 pl, .int .u8 c, .int .u8 d, .int .u16 m, .int .i64 le, .int .i64 sk]).below hb1 (by simp)
    have HB1 := Lib.hid (((Below.refl _ w).alloc (Nat.le_refl _) _).trans (hb1.mono (by simp)))
    have hsz := r1.lt
    have R1 := Lib.hid r1
    clear hb1 r1
    go_wp2_with fail
    refine (KP.out _).mono ?_
    rintro e w2 ⟨rfl, hb2⟩
    have r2 := R1.out.below hb2 hsz
    have HB2 := Lib.hid (HB1.out.trans (hb2.mono HB1.out.size))
    obtain ⟨o0, o1, o2, o3, o4, o5⟩ := row6c r2
    have hsz2 := r2.lt
    clear hb2 r2
    go_wp2
    go_ret
    refine ⟨ret_bs ?_, by first | exact HB2.out | exact HB2.out.trans (hb.mono HB2.out.size) | exact HB2.out.alloc HB2.out.size _⟩
    rw [show edT 1 1 7 p q = [108, 100, 32, 114, 44, 97] from rfl]
    (try simp only [← sy_app, HG.out, HP.out, HW.out])
    all_goals rfl
  · have kg := fun W => rreg0_any 2 hy W
    have zG := pick_size regN (by decide) 2
    have hGG := pick_sy pl d m regN (by decide) 2
    generalize sb (pick regN 2) = RG at *
    have KG := Lib.hid kg
    have HG := Lib.hid hGG
    have kp := fun W => rpair0_any p hp W
    have zP := pick_size pairN (by decide) p
    have hPP := pick_sy pl d m pairN (by decide) p
    generalize sb (pick pairN p) = RP at *
    have KP := Lib.hid kp
    have HP := Lib.hid hPP
    have kw := fun W => rnn_any pl c d m le sk h0 h1 W
    have zW := sy_size pl d m [257]
    generalize hRW : sy pl d m [257] = RW at *
    have HW := Lib.hid hRW
    have zW2 : RW.size ≤ 8 := by simpa using zW
    have KW := Lib.hid kw
    clear kg hGG kp hPP kw hRW zW
    go_enter Tryd.func20, Tryd.ntmps20
    go_wp2_with fail
    refine (KG.out _).mono ?_
    rintro e w1 ⟨rfl, hb1⟩
    have r1 := (Row.new w 24 #[.int .i64 pl, .int .u8 c, .int .u8 d, .int .u16 m, .int .i64 le, .int .i64 sk]).below hb1 (by simp)
    have HB1 := Lib.hid (((Below.refl _ w).alloc (Nat.le_refl _) _).trans (hb1.mono (by simp)))
    have hsz := r1.lt
    have R1 := Lib.hid r1
    clear hb1 r1
    go_wp2_with fail
    refine (KP.out _).mono ?_
    rintro e w2 ⟨rfl, hb2⟩
    have r2 := R1.out.below hb2 hsz
    have HB2 := Lib.hid (HB1.out.trans (hb2.mono HB1.out.size))
    obtain ⟨o0, o1, o2, o3, o4, o5⟩ := row6c r2
    have hsz2 := r2.lt
    clear hb2 r2
    go_wp2
    go_ret
    refine ⟨ret_bs ?_, by first | exact HB2.out | exact HB2.out.trans (hb.mono HB2.out.size) | exact HB2.out.alloc HB2.out.size _⟩
    rw [show edT 1 2 7 p q = [108, 100, 32, 97, 44, 105] from rfl]
    (try simp only [← sy_app, HG.out, HP.out, HW.out])
    all_goals rfl
  · have kg := fun W => rreg0_any 3 hy W
    have zG := pick_size regN (by decide) 3
    have hGG := pick_sy pl d m regN (by decide) 3
    generalize sb (pick regN 3) = RG at *
    have KG := Lib.hid kg
    have HG := Lib.hid hGG
    have kp := fun W => rpair0_any p hp W
    have zP := pick_size pairN (by decide) p
    have hPP := pick_sy pl d m pairN (by decide) p
    generalize sb (pick pairN p) = RP at *
    have KP := Lib.hid kp
    have HP := Lib.hid hPP
    have kw := fun W => rnn_any pl c d m le sk h0 h1 W
    have zW := sy_size pl d m [257]
    generalize hRW : sy pl d m [257] = RW at *
    have HW := Lib.hid hRW
    have zW2 : RW.size ≤ 8 := by simpa using zW
    have KW := Lib.hid kw
    clear kg hGG kp hPP kw hRW zW
    go_enter Tryd.func20, Tryd.ntmps20
    go_wp2_with fail
    refine (KG.out _).mono ?_
    rintro e w1 ⟨rfl, hb1⟩
    have r1 := (Row.new w 24 #[.int .i64 pl, .int .u8 c, .int .u8 d, .int .u16 m, .int .i64 le, .int .i64 sk]).below hb1 (by simp)
    have HB1 := Lib.hid (((Below.refl _ w).alloc (Nat.le_refl _) _).trans (hb1.mono (by simp)))
    have hsz := r1.lt
    have R1 := Lib.hid r1
    clear hb1 r1
    go_wp2_with fail
    refine (KP.out _).mono ?_
    rintro e w2 ⟨rfl, hb2⟩
    have r2 := R1.out.below hb2 hsz
    have HB2 := Lib.hid (HB1.out.trans (hb2.mono HB1.out.size))
    obtain ⟨o0, o1, o2, o3, o4, o5⟩ := row6c r2
    have hsz2 := r2.lt
    clear hb2 r2
    go_wp2
    go_ret
    refine ⟨ret_bs ?_, by first | exact HB2.out | exact HB2.out.trans (hb.mono HB2.out.size) | exact HB2.out.alloc HB2.out.size _⟩
    rw [show edT 1 3 7 p q = [108, 100, 32, 97, 44, 114] from rfl]
    (try simp only [← sy_app, HG.out, HP.out, HW.out])
    all_goals rfl
  · have kg := fun W => rreg0_any 4 hy W
    have zG := pick_size regN (by decide) 4
    have hGG := pick_sy pl d m regN (by decide) 4
    generalize sb (pick regN 4) = RG at *
    have KG := Lib.hid kg
    have HG := Lib.hid hGG
    have kp := fun W => rpair0_any p hp W
    have zP := pick_size pairN (by decide) p
    have hPP := pick_sy pl d m pairN (by decide) p
    generalize sb (pick pairN p) = RP at *
    have KP := Lib.hid kp
    have HP := Lib.hid hPP
    have kw := fun W => rnn_any pl c d m le sk h0 h1 W
    have zW := sy_size pl d m [257]
    generalize hRW : sy pl d m [257] = RW at *
    have HW := Lib.hid hRW
    have zW2 : RW.size ≤ 8 := by simpa using zW
    have KW := Lib.hid kw
    clear kg hGG kp hPP kw hRW zW
    go_enter Tryd.func20, Tryd.ntmps20
    go_wp2_with fail
    refine (KG.out _).mono ?_
    rintro e w1 ⟨rfl, hb1⟩
    have r1 := (Row.new w 24 #[.int .i64 pl, .int .u8 c, .int .u8 d, .int .u16 m, .int .i64 le, .int .i64 sk]).below hb1 (by simp)
    have HB1 := Lib.hid (((Below.refl _ w).alloc (Nat.le_refl _) _).trans (hb1.mono (by simp)))
    have hsz := r1.lt
    have R1 := Lib.hid r1
    clear hb1 r1
    go_wp2_with fail
    refine (KP.out _).mono ?_
    rintro e w2 ⟨rfl, hb2⟩
    have r2 := R1.out.below hb2 hsz
    have HB2 := Lib.hid (HB1.out.trans (hb2.mono HB1.out.size))
    obtain ⟨o0, o1, o2, o3, o4, o5⟩ := row6c r2
    have hsz2 := r2.lt
    clear hb2 r2
    go_wp2
    go_ret
    refine ⟨ret_bs ?_, by first | exact HB2.out | exact HB2.out.trans (hb.mono HB2.out.size) | exact HB2.out.alloc HB2.out.size _⟩
    rw [show edT 1 4 7 p q = [114, 114, 100] from rfl]
    (try simp only [← sy_app, HG.out, HP.out, HW.out])
    all_goals rfl
  · have kg := fun W => rreg0_any 5 hy W
    have zG := pick_size regN (by decide) 5
    have hGG := pick_sy pl d m regN (by decide) 5
    generalize sb (pick regN 5) = RG at *
    have KG := Lib.hid kg
    have HG := Lib.hid hGG
    have kp := fun W => rpair0_any p hp W
    have zP := pick_size pairN (by decide) p
    have hPP := pick_sy pl d m pairN (by decide) p
    generalize sb (pick pairN p) = RP at *
    have KP := Lib.hid kp
    have HP := Lib.hid hPP
    have kw := fun W => rnn_any pl c d m le sk h0 h1 W
    have zW := sy_size pl d m [257]
    generalize hRW : sy pl d m [257] = RW at *
    have HW := Lib.hid hRW
    have zW2 : RW.size ≤ 8 := by simpa using zW
    have KW := Lib.hid kw
    clear kg hGG kp hPP kw hRW zW
    go_enter Tryd.func20, Tryd.ntmps20
    go_wp2_with fail
    refine (KG.out _).mono ?_
    rintro e w1 ⟨rfl, hb1⟩
    have r1 := (Row.new w 24 #[.int .i64 pl, .int .u8 c, .int .u8 d, .int .u16 m, .int .i64 le, .int .i64 sk]).below hb1 (by simp)
    have HB1 := Lib.hid (((Below.refl _ w).alloc (Nat.le_refl _) _).trans (hb1.mono (by simp)))
    have hsz := r1.lt
    have R1 := Lib.hid r1
    clear hb1 r1
    go_wp2_with fail
    refine (KP.out _).mono ?_
    rintro e w2 ⟨rfl, hb2⟩
    have r2 := R1.out.below hb2 hsz
    have HB2 := Lib.hid (HB1.out.trans (hb2.mono HB1.out.size))
    obtain ⟨o0, o1, o2, o3, o4, o5⟩ := row6c r2
    have hsz2 := r2.lt
    clear hb2 r2
    go_wp2
    go_ret
    refine ⟨ret_bs ?_, by first | exact HB2.out | exact HB2.out.trans (hb.mono HB2.out.size) | exact HB2.out.alloc HB2.out.size _⟩
    rw [show edT 1 5 7 p q = [114, 108, 100] from rfl]
    (try simp only [← sy_app, HG.out, HP.out, HW.out])
    all_goals rfl
  · have kg := fun W => rreg0_any 6 hy W
    have zG := pick_size regN (by decide) 6
    have hGG := pick_sy pl d m regN (by decide) 6
    generalize sb (pick regN 6) = RG at *
    have KG := Lib.hid kg
    have HG := Lib.hid hGG
    have kp := fun W => rpair0_any p hp W
    have zP := pick_size pairN (by decide) p
    have hPP := pick_sy pl d m pairN (by decide) p
    generalize sb (pick pairN p) = RP at *
    have KP := Lib.hid kp
    have HP := Lib.hid hPP
    have kw := fun W => rnn_any pl c d m le sk h0 h1 W
    have zW := sy_size pl d m [257]
    generalize hRW : sy pl d m [257] = RW at *
    have HW := Lib.hid hRW
    have zW2 : RW.size ≤ 8 := by simpa using zW
    have KW := Lib.hid kw
    clear kg hGG kp hPP kw hRW zW
    go_enter Tryd.func20, Tryd.ntmps20
    go_wp2_with fail
    refine (KG.out _).mono ?_
    rintro e w1 ⟨rfl, hb1⟩
    have r1 := (Row.new w 24 #[.int .i64 pl, .int .u8 c, .int .u8 d, .int .u16 m, .int .i64 le, .int .i64 sk]).below hb1 (by simp)
    have HB1 := Lib.hid (((Below.refl _ w).alloc (Nat.le_refl _) _).trans (hb1.mono (by simp)))
    have hsz := r1.lt
    have R1 := Lib.hid r1
    clear hb1 r1
    go_wp2_with fail
    refine (KP.out _).mono ?_
    rintro e w2 ⟨rfl, hb2⟩
    have r2 := R1.out.below hb2 hsz
    have HB2 := Lib.hid (HB1.out.trans (hb2.mono HB1.out.size))
    obtain ⟨o0, o1, o2, o3, o4, o5⟩ := row6c r2
    have hsz2 := r2.lt
    clear hb2 r2
    go_wp2
    go_ret
    refine ⟨ret_bs ?_, by first | exact HB2.out | exact HB2.out.trans (hb.mono HB2.out.size) | exact HB2.out.alloc HB2.out.size _⟩
    rw [show edT 1 6 7 p q = [110, 111, 112, 42] from rfl]
    (try simp only [← sy_app, HG.out, HP.out, HW.out])
    all_goals rfl
  · have kg := fun W => rreg0_any 7 hy W
    have zG := pick_size regN (by decide) 7
    have hGG := pick_sy pl d m regN (by decide) 7
    generalize sb (pick regN 7) = RG at *
    have KG := Lib.hid kg
    have HG := Lib.hid hGG
    have kp := fun W => rpair0_any p hp W
    have zP := pick_size pairN (by decide) p
    have hPP := pick_sy pl d m pairN (by decide) p
    generalize sb (pick pairN p) = RP at *
    have KP := Lib.hid kp
    have HP := Lib.hid hPP
    have kw := fun W => rnn_any pl c d m le sk h0 h1 W
    have zW := sy_size pl d m [257]
    generalize hRW : sy pl d m [257] = RW at *
    have HW := Lib.hid hRW
    have zW2 : RW.size ≤ 8 := by simpa using zW
    have KW := Lib.hid kw
    clear kg hGG kp hPP kw hRW zW
    go_enter Tryd.func20, Tryd.ntmps20
    go_wp2_with fail
    refine (KG.out _).mono ?_
    rintro e w1 ⟨rfl, hb1⟩
    have r1 := (Row.new w 24 #[.int .i64 pl, .int .u8 c, .int .u8 d, .int .u16 m, .int .i64 le, .int .i64 sk]).below hb1 (by simp)
    have HB1 := Lib.hid (((Below.refl _ w).alloc (Nat.le_refl _) _).trans (hb1.mono (by simp)))
    have hsz := r1.lt
    have R1 := Lib.hid r1
    clear hb1 r1
    go_wp2_with fail
    refine (KP.out _).mono ?_
    rintro e w2 ⟨rfl, hb2⟩
    have r2 := R1.out.below hb2 hsz
    have HB2 := Lib.hid (HB1.out.trans (hb2.mono HB1.out.size))
    obtain ⟨o0, o1, o2, o3, o4, o5⟩ := row6c r2
    have hsz2 := r2.lt
    clear hb2 r2
    go_wp2
    go_ret
    refine ⟨ret_bs ?_, by first | exact HB2.out | exact HB2.out.trans (hb.mono HB2.out.size) | exact HB2.out.alloc HB2.out.size _⟩
    rw [show edT 1 7 7 p q = [110, 111, 112, 42] from rfl]
    (try simp only [← sy_app, HG.out, HP.out, HW.out])
    all_goals rfl
theorem red_any (pl c d m le sk x y z p q : Int) (h0 : 0 ≤ m) (h1 : m ≤ 65535) (hx : 0 ≤ x ∧ x ≤ 3) (hy : 0 ≤ y ∧ y ≤ 7) (hz : 0 ≤ z ∧ z ≤ 7) (hp : 0 ≤ p ∧ p ≤ 3) (hq : 0 ≤ q ∧ q ≤ 1) (w : World) :
    Calls Tryd.prog 20 #[opV pl c d m le sk, .int .i64 x, .int .i64 y, .int .i64 z, .int .i64 p, .int .i64 q] w fun e w' => e = .returned (.string (sy pl d m (edT x y z p q))) ∧ Below w.heap.size w w' := by
  obtain rfl | rfl | rfl | rfl : x = 0 ∨ x = 1 ∨ x = 2 ∨ x = 3 := by omega
  · exact red0 pl c d m le sk y z p q w
  · rcases eight z hz with rfl | rfl | rfl | rfl | rfl | rfl | rfl | rfl
    · exact red1z0 pl c d m le sk y p q h0 h1 hy hp hq w
    · exact red1z1 pl c d m le sk y p q h0 h1 hy hp hq w
    · exact red1z2 pl c d m le sk y p q h0 h1 hy hp hq w
    · exact red1z3 pl c d m le sk y p q h0 h1 hy hp hq w
    · exact red1z4 pl c d m le sk y p q h0 h1 hy hp hq w
    · exact red1z5 pl c d m le sk y p q h0 h1 hy hp hq w
    · exact red1z6 pl c d m le sk y p q h0 h1 hy hp hq w
    · exact red1z7 pl c d m le sk y p q h0 h1 hy hp hq w
  · by_cases h4 : z < 4
    · by_cases h5 : y ≤ 3
      · exact red2m pl c d m le sk y z p q h4 h5 w
      · obtain rfl | rfl | rfl | rfl : z = 0 ∨ z = 1 ∨ z = 2 ∨ z = 3 := by omega
        · exact red2z0 pl c d m le sk y p q (by omega) w
        · exact red2z1 pl c d m le sk y p q (by omega) w
        · exact red2z2 pl c d m le sk y p q (by omega) w
        · exact red2z3 pl c d m le sk y p q (by omega) w
    · exact red2n pl c d m le sk y z p q (by omega) w
  · exact red3 pl c d m le sk y z p q w
end Go.Proofs.YtgdpafldhmchpaaDoor
