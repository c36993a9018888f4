/- Layer 9 (text): the document's own: contract of three. -/
import Derived.Test.YtgdpafldhmchpaaDoorTextRefT
namespace Go.Proofs.YtgdpafldhmchpaaDoor
open Go.RowKit
set_option linter.unusedVariables false
set_option linter.unusedSimpArgs false

set_option maxHeartbeats 8000000 in
theorem rthree0 (pl c d m le sk y p q : Int) (h0 : 0 ≤ m) (h1 : m ≤ 65535) (hy : 0 ≤ y ∧ y ≤ 7) (hp : 0 ≤ p ∧ p ≤ 3) (hq : 0 ≤ q ∧ q ≤ 1)  (w : World) :
    Calls Tryd.prog 24 #[opV pl c d m le sk, .int .i64 y, .int .i64 0, .int .i64 p, .int .i64 q] w fun e w' => e = .returned (.string (sy pl d m (threeT pl y 0 p q))) ∧ Below w.heap.size w w' := by
  have kp2 := fun W => rpairSp_any pl c d m le sk 2 (by omega) W
  have zH := sy_size pl d m (pairT pl 2 [115, 112])
  have lH := pairT_le pl 2 [115, 112] (by simp)
  have zH : (sy pl d m (pairT pl 2 [115, 112])).size ≤ 100 := by omega
  clear lH
  generalize hRH : sy pl d m (pairT pl 2 [115, 112]) = RH at *
  have HH := Lib.hid hRH
  clear hRH
  have KP2 := Lib.hid kp2
  clear kp2
  have kc := fun W => rconds_any y hy W
  have zC := pick_size condN (by decide) y
  have hCC := pick_sy pl d m condN (by decide) y
  generalize sb (pick condN y) = RC at *
  have KC := Lib.hid kc
  have HC := Lib.hid hCC
  clear kc hCC
  have y0 : 0 ≤ y := hy.1
  have y1 : y < 8 := by omega
  go_enter Tryd.func24, Tryd.ntmps24
  go_wp2_with fail
  refine (KP2.out _).mono ?_
  rintro e w2 ⟨rfl, hb1⟩
  have r1 := (Row.new w 24 #[.int .i64 pl, .int .u8 c, .int .u8 d, .int .u16 m, .int .i64 le, .int .i64 sk]).below hb1 (by simp)
  have HB2 := Lib.hid (((Below.refl _ w).alloc (Nat.le_refl _) _).trans (hb1.mono (by simp)))
  have hs := row6c r1
  have hsz := r1.lt
  clear r1 hb1
  go_wp2_with (first
    | (go_at_call 45; refine (KC.out _).mono ?_; rintro e w6 ⟨rfl, hcell, hb⟩))
  go_ret
  refine ⟨ret_bs ?_, HB2.out.trans (hb.mono HB2.out.size)⟩
  rw [show threeT pl y 0 p q = [114, 101, 116, 32] ++ pick condN y from rfl]
  simp only [← sy_app, HC.out]
  all_goals rfl
set_option maxHeartbeats 8000000 in
theorem rthree1a (pl c d m le sk y p q : Int) (h0 : 0 ≤ m) (h1 : m ≤ 65535) (hy : 0 ≤ y ∧ y ≤ 7) (hp : 0 ≤ p ∧ p ≤ 3) (hq : 0 ≤ q ∧ q ≤ 1) (hqq : q = 0) (w : World) :
    Calls Tryd.prog 24 #[opV pl c d m le sk, .int .i64 y, .int .i64 1, .int .i64 p, .int .i64 q] w fun e w' => e = .returned (.string (sy pl d m (threeT pl y 1 p q))) ∧ Below w.heap.size w w' := by
  have kp2 := fun W => rpairSp_any pl c d m le sk 2 (by omega) W
  have kq := fun W => rpairAf_any pl c d m le sk p hp W
  have zH := sy_size pl d m (pairT pl 2 [115, 112])
  have lH := pairT_le pl 2 [115, 112] (by simp)
  have zH : (sy pl d m (pairT pl 2 [115, 112])).size ≤ 100 := by omega
  clear lH
  generalize hRH : sy pl d m (pairT pl 2 [115, 112]) = RH at *
  have HH := Lib.hid hRH
  clear hRH
  have zQ := sy_size pl d m (pairT pl p [97, 102])
  have lQ := pairT_le pl p [97, 102] (by simp)
  have zQ : (sy pl d m (pairT pl p [97, 102])).size ≤ 100 := by omega
  clear lQ
  generalize hRQ : sy pl d m (pairT pl p [97, 102]) = RQ at *
  have HQ := Lib.hid hRQ
  clear hRQ
  have KP2 := Lib.hid kp2
  clear kp2
  have KQ := Lib.hid kq
  clear kq
  subst hqq
  go_enter Tryd.func24, Tryd.ntmps24
  go_wp2_with fail
  refine (KP2.out _).mono ?_
  rintro e w2 ⟨rfl, hb1⟩
  have r1 := (Row.new w 24 #[.int .i64 pl, .int .u8 c, .int .u8 d, .int .u16 m, .int .i64 le, .int .i64 sk]).below hb1 (by simp)
  have HB2 := Lib.hid (((Below.refl _ w).alloc (Nat.le_refl _) _).trans (hb1.mono (by simp)))
  have hs := row6c r1
  have hsz := r1.lt
  clear r1 hb1
  obtain ⟨o0, o1, o2, o3, o4, o5⟩ := hs
  go_wp2_with (first
    | (go_at_call 42; refine (KQ.out _).mono ?_; rintro e w' ⟨rfl, hb⟩; have hsz := hb.size))
  go_ret
  refine ⟨ret_bs ?_, HB2.out.trans (hb.mono HB2.out.size)⟩
  rw [show threeT pl y 1 p 0 = [112, 111, 112, 32] ++ pairT pl p [97, 102] from rfl]
  simp only [← sy_app, HQ.out]
  all_goals rfl
set_option maxHeartbeats 8000000 in
theorem rthree1b (pl c d m le sk y p q : Int) (h0 : 0 ≤ m) (h1 : m ≤ 65535) (hy : 0 ≤ y ∧ y ≤ 7) (hp : 0 ≤ p ∧ p ≤ 3) (hq : 0 ≤ q ∧ q ≤ 1) (hqq : q = 1) (w : World) :
    Calls Tryd.prog 24 #[opV pl c d m le sk, .int .i64 y, .int .i64 1, .int .i64 p, .int .i64 q] w fun e w' => e = .returned (.string (sy pl d m (threeT pl y 1 p q))) ∧ Below w.heap.size w w' := by
  have kp2 := fun W => rpairSp_any pl c d m le sk 2 (by omega) W
  have zH := sy_size pl d m (pairT pl 2 [115, 112])
  have lH := pairT_le pl 2 [115, 112] (by simp)
  have zH : (sy pl d m (pairT pl 2 [115, 112])).size ≤ 100 := by omega
  clear lH
  generalize hRH : sy pl d m (pairT pl 2 [115, 112]) = RH at *
  have HH := Lib.hid hRH
  clear hRH
  have KP2 := Lib.hid kp2
  clear kp2
  subst hqq
  obtain rfl | rfl | rfl | rfl : p = 0 ∨ p = 1 ∨ p = 2 ∨ p = 3 := by omega
  · go_enter Tryd.func24, Tryd.ntmps24
    go_wp2_with fail
    refine (KP2.out _).mono ?_
    rintro e w2 ⟨rfl, hb1⟩
    have r1 := (Row.new w 24 #[.int .i64 pl, .int .u8 c, .int .u8 d, .int .u16 m, .int .i64 le, .int .i64 sk]).below hb1 (by simp)
    have HB2 := Lib.hid (((Below.refl _ w).alloc (Nat.le_refl _) _).trans (hb1.mono (by simp)))
    have hs := row6c r1
    have hsz := r1.lt
    clear r1 hb1
    go_wp2
    go_ret
    refine ⟨ret_bs ?_, HB2.out.alloc HB2.out.size _⟩
    rfl
  · go_enter Tryd.func24, Tryd.ntmps24
    go_wp2_with fail
    refine (KP2.out _).mono ?_
    rintro e w2 ⟨rfl, hb1⟩
    have r1 := (Row.new w 24 #[.int .i64 pl, .int .u8 c, .int .u8 d, .int .u16 m, .int .i64 le, .int .i64 sk]).below hb1 (by simp)
    have HB2 := Lib.hid (((Below.refl _ w).alloc (Nat.le_refl _) _).trans (hb1.mono (by simp)))
    have hs := row6c r1
    have hsz := r1.lt
    clear r1 hb1
    go_wp2
    go_ret
    refine ⟨ret_bs ?_, HB2.out.alloc HB2.out.size _⟩
    rfl
  · go_enter Tryd.func24, Tryd.ntmps24
    go_wp2_with fail
    refine (KP2.out _).mono ?_
    rintro e w2 ⟨rfl, hb1⟩
    have r1 := (Row.new w 24 #[.int .i64 pl, .int .u8 c, .int .u8 d, .int .u16 m, .int .i64 le, .int .i64 sk]).below hb1 (by simp)
    have HB2 := Lib.hid (((Below.refl _ w).alloc (Nat.le_refl _) _).trans (hb1.mono (by simp)))
    have hs := row6c r1
    have hsz := r1.lt
    clear r1 hb1
    go_wp2
    go_ret
    refine ⟨ret_bs ?_, HB2.out.alloc HB2.out.size _⟩
    rw [show threeT pl y 1 2 1 = [106, 112, 32, 40] ++ pairT pl 2 [115, 112] ++ [41] from rfl]
    simp only [← sy_app, HH.out]
    all_goals rfl
  · go_enter Tryd.func24, Tryd.ntmps24
    go_wp2_with fail
    refine (KP2.out _).mono ?_
    rintro e w2 ⟨rfl, hb1⟩
    have r1 := (Row.new w 24 #[.int .i64 pl, .int .u8 c, .int .u8 d, .int .u16 m, .int .i64 le, .int .i64 sk]).below hb1 (by simp)
    have HB2 := Lib.hid (((Below.refl _ w).alloc (Nat.le_refl _) _).trans (hb1.mono (by simp)))
    have hs := row6c r1
    have hsz := r1.lt
    clear r1 hb1
    go_wp2
    go_ret
    refine ⟨ret_bs ?_, HB2.out.alloc HB2.out.size _⟩
    rw [show threeT pl y 1 3 1 = [108, 100, 32, 115, 112, 44] ++ pairT pl 2 [115, 112] from rfl]
    simp only [← sy_app, HH.out]
    all_goals rfl
set_option maxHeartbeats 8000000 in
theorem rthree2 (pl c d m le sk y p q : Int) (h0 : 0 ≤ m) (h1 : m ≤ 65535) (hy : 0 ≤ y ∧ y ≤ 7) (hp : 0 ≤ p ∧ p ≤ 3) (hq : 0 ≤ q ∧ q ≤ 1)  (w : World) :
    Calls Tryd.prog 24 #[opV pl c d m le sk, .int .i64 y, .int .i64 2, .int .i64 p, .int .i64 q] w fun e w' => e = .returned (.string (sy pl d m (threeT pl y 2 p q))) ∧ Below w.heap.size w w' := by
  have kp2 := fun W => rpairSp_any pl c d m le sk 2 (by omega) W
  have kw := fun W => rnn_any pl c d m le sk h0 h1 W
  have zH := sy_size pl d m (pairT pl 2 [115, 112])
  have lH := pairT_le pl 2 [115, 112] (by simp)
  have zH : (sy pl d m (pairT pl 2 [115, 112])).size ≤ 100 := by omega
  clear lH
  generalize hRH : sy pl d m (pairT pl 2 [115, 112]) = RH at *
  have HH := Lib.hid hRH
  clear hRH
  have zW := sy_size pl d m ([257])
  have lW := (show [257].length ≤ 8 by simp)
  have zW : (sy pl d m ([257])).size ≤ 100 := by omega
  clear lW
  generalize hRW : sy pl d m ([257]) = RW at *
  have HW := Lib.hid hRW
  clear hRW
  have KP2 := Lib.hid kp2
  clear kp2
  have KW := Lib.hid kw
  clear kw
  have kc := fun W => rconds_any y hy W
  have zC := pick_size condN (by decide) y
  have hCC := pick_sy pl d m condN (by decide) y
  generalize sb (pick condN y) = RC at *
  have KC := Lib.hid kc
  have HC := Lib.hid hCC
  clear kc hCC
  have y0 : 0 ≤ y := hy.1
  have y1 : y < 8 := by omega
  go_enter Tryd.func24, Tryd.ntmps24
  go_wp2_with fail
  refine (KP2.out _).mono ?_
  rintro e w2 ⟨rfl, hb1⟩
  have r1 := (Row.new w 24 #[.int .i64 pl, .int .u8 c, .int .u8 d, .int .u16 m, .int .i64 le, .int .i64 sk]).below hb1 (by simp)
  have HB2 := Lib.hid (((Below.refl _ w).alloc (Nat.le_refl _) _).trans (hb1.mono (by simp)))
  have hs := row6c r1
  have hsz := r1.lt
  clear r1 hb1
  have b0 : ¬ 9223372036854775807 < 3 + RC.size := by omega
  have b1 : ¬ 9223372036854775807 < 3 + RC.size + 1 := by omega
  have b2 : ¬ 9223372036854775807 < 3 + RC.size + 1 + RW.size := by omega
  go_wp2_with fail
  go_region_with (first
    | (go_at_call 45; refine (KC.out _).mono ?_; rintro e w6 ⟨rfl, hcell, hb⟩; (try simp only [World.size_drew] at hcell); have hb5 := (Below.drew (Below.refl _ w2)).trans hb; have hs6 := keep6r hb5 hs; have HB6 := Lib.hid (HB2.out.trans (hb5.mono HB2.out.size)))
    | (go_at_call 43; refine (KW.out _).mono ?_; rintro e w7 ⟨rfl, hb⟩; have HB7 := Lib.hid (HB6.out.trans (hb.mono HB6.out.size)); have hcl := cell_kept hcell hb; have hs7 := keep6r hb hs6))
  all_goals go_wp2
  all_goals
    go_ret
    refine ⟨ret_bs ?_, HB7.out⟩
    rw [show threeT pl y 2 p q = [106, 112, 32] ++ pick condN y ++ [44] ++ [257] from rfl]
    simp only [← sy_app, HC.out, HW.out]
    all_goals rfl
set_option maxHeartbeats 8000000 in
theorem rthree4 (pl c d m le sk y p q : Int) (h0 : 0 ≤ m) (h1 : m ≤ 65535) (hy : 0 ≤ y ∧ y ≤ 7) (hp : 0 ≤ p ∧ p ≤ 3) (hq : 0 ≤ q ∧ q ≤ 1)  (w : World) :
    Calls Tryd.prog 24 #[opV pl c d m le sk, .int .i64 y, .int .i64 4, .int .i64 p, .int .i64 q] w fun e w' => e = .returned (.string (sy pl d m (threeT pl y 4 p q))) ∧ Below w.heap.size w w' := by
  have kp2 := fun W => rpairSp_any pl c d m le sk 2 (by omega) W
  have kw := fun W => rnn_any pl c d m le sk h0 h1 W
  have zH := sy_size pl d m (pairT pl 2 [115, 112])
  have lH := pairT_le pl 2 [115, 112] (by simp)
  have zH : (sy pl d m (pairT pl 2 [115, 112])).size ≤ 100 := by omega
  clear lH
  generalize hRH : sy pl d m (pairT pl 2 [115, 112]) = RH at *
  have HH := Lib.hid hRH
  clear hRH
  have zW := sy_size pl d m ([257])
  have lW := (show [257].length ≤ 8 by simp)
  have zW : (sy pl d m ([257])).size ≤ 100 := by omega
  clear lW
  generalize hRW : sy pl d m ([257]) = RW at *
  have HW := Lib.hid hRW
  clear hRW
  have KP2 := Lib.hid kp2
  clear kp2
  have KW := Lib.hid kw
  clear kw
  have kc := fun W => rconds_any y hy W
  have zC := pick_size condN (by decide) y
  have hCC := pick_sy pl d m condN (by decide) y
  generalize sb (pick condN y) = RC at *
  have KC := Lib.hid kc
  have HC := Lib.hid hCC
  clear kc hCC
  have y0 : 0 ≤ y := hy.1
  have y1 : y < 8 := by omega
  go_enter Tryd.func24, Tryd.ntmps24
  go_wp2_with fail
  refine (KP2.out _).mono ?_
  rintro e w2 ⟨rfl, hb1⟩
  have r1 := (Row.new w 24 #[.int .i64 pl, .int .u8 c, .int .u8 d, .int .u16 m, .int .i64 le, .int .i64 sk]).below hb1 (by simp)
  have HB2 := Lib.hid (((Below.refl _ w).alloc (Nat.le_refl _) _).trans (hb1.mono (by simp)))
  have hs := row6c r1
  have hsz := r1.lt
  clear r1 hb1
  have b0 : ¬ 9223372036854775807 < 5 + RC.size := by omega
  have b1 : ¬ 9223372036854775807 < 5 + RC.size + 1 := by omega
  have b2 : ¬ 9223372036854775807 < 5 + RC.size + 1 + RW.size := by omega
  go_wp2_with fail
  go_region_with (first
    | (go_at_call 45; refine (KC.out _).mono ?_; rintro e w6 ⟨rfl, hcell, hb⟩; (try simp only [World.size_drew] at hcell); have hb5 := (Below.drew (Below.refl _ w2)).trans hb; have hs6 := keep6r hb5 hs; have HB6 := Lib.hid (HB2.out.trans (hb5.mono HB2.out.size)))
    | (go_at_call 43; refine (KW.out _).mono ?_; rintro e w7 ⟨rfl, hb⟩; have HB7 := Lib.hid (HB6.out.trans (hb.mono HB6.out.size)); have hcl := cell_kept hcell hb; have hs7 := keep6r hb hs6))
  all_goals go_wp2
  all_goals
    go_ret
    refine ⟨ret_bs ?_, HB7.out⟩
    rw [show threeT pl y 4 p q = [99, 97, 108, 108, 32] ++ pick condN y ++ [44] ++ [257] from rfl]
    simp only [← sy_app, HC.out, HW.out]
    all_goals rfl
set_option maxHeartbeats 8000000 in
theorem rthree6 (pl c d m le sk y p q : Int) (h0 : 0 ≤ m) (h1 : m ≤ 65535) (hy : 0 ≤ y ∧ y ≤ 7) (hp : 0 ≤ p ∧ p ≤ 3) (hq : 0 ≤ q ∧ q ≤ 1)  (w : World) :
    Calls Tryd.prog 24 #[opV pl c d m le sk, .int .i64 y, .int .i64 6, .int .i64 p, .int .i64 q] w fun e w' => e = .returned (.string (sy pl d m (threeT pl y 6 p q))) ∧ Below w.heap.size w w' := by
  have kp2 := fun W => rpairSp_any pl c d m le sk 2 (by omega) W
  have kn := fun W => rn_any pl c d m le sk h0 h1 W
  have zH := sy_size pl d m (pairT pl 2 [115, 112])
  have lH := pairT_le pl 2 [115, 112] (by simp)
  have zH : (sy pl d m (pairT pl 2 [115, 112])).size ≤ 100 := by omega
  clear lH
  generalize hRH : sy pl d m (pairT pl 2 [115, 112]) = RH at *
  have HH := Lib.hid hRH
  clear hRH
  have zN := sy_size pl d m ([256])
  have lN := (show [256].length ≤ 8 by simp)
  have zN : (sy pl d m ([256])).size ≤ 100 := by omega
  clear lN
  generalize hRN : sy pl d m ([256]) = RN at *
  have HN := Lib.hid hRN
  clear hRN
  have KP2 := Lib.hid kp2
  clear kp2
  have KN := Lib.hid kn
  clear kn
  have kc := fun W => rsums_any y hy W
  have zC := pick_size sumN (by decide) y
  have hCC := pick_sy pl d m sumN (by decide) y
  generalize sb (pick sumN y) = RC at *
  have KC := Lib.hid kc
  have HC := Lib.hid hCC
  clear kc hCC
  have y0 : 0 ≤ y := hy.1
  have y1 : y < 8 := by omega
  go_enter Tryd.func24, Tryd.ntmps24
  go_wp2_with fail
  refine (KP2.out _).mono ?_
  rintro e w2 ⟨rfl, hb1⟩
  have r1 := (Row.new w 24 #[.int .i64 pl, .int .u8 c, .int .u8 d, .int .u16 m, .int .i64 le, .int .i64 sk]).below hb1 (by simp)
  have HB2 := Lib.hid (((Below.refl _ w).alloc (Nat.le_refl _) _).trans (hb1.mono (by simp)))
  have hs := row6c r1
  have hsz := r1.lt
  clear r1 hb1
  have b0 : ¬ 9223372036854775807 < RC.size + RN.size := by omega
  go_wp2_with fail
  go_region_with (first
    | (go_at_call 23; refine (KC.out _).mono ?_; rintro e w6 ⟨rfl, hcell, hb⟩; (try simp only [World.size_drew] at hcell); have hb5 := (Below.drew (Below.refl _ w2)).trans hb; have hs6 := keep6r hb5 hs; have HB6 := Lib.hid (HB2.out.trans (hb5.mono HB2.out.size)))
    | (go_at_call 46; refine (KN.out _).mono ?_; rintro e w7 ⟨rfl, hb⟩; have HB7 := Lib.hid (HB6.out.trans (hb.mono HB6.out.size)); have hcl := cell_kept hcell hb; have hs7 := keep6r hb hs6))
  all_goals go_wp2
  all_goals
    go_ret
    refine ⟨ret_bs ?_, HB7.out⟩
    rw [show threeT pl y 6 p q = pick sumN y ++ [256] from rfl]
    simp only [← sy_app, HC.out, HN.out]
    all_goals rfl
set_option maxHeartbeats 8000000 in
theorem rthree5a (pl c d m le sk y p q : Int) (h0 : 0 ≤ m) (h1 : m ≤ 65535) (hy : 0 ≤ y ∧ y ≤ 7) (hp : 0 ≤ p ∧ p ≤ 3) (hq : 0 ≤ q ∧ q ≤ 1) (hqq : q = 0) (w : World) :
    Calls Tryd.prog 24 #[opV pl c d m le sk, .int .i64 y, .int .i64 5, .int .i64 p, .int .i64 q] w fun e w' => e = .returned (.string (sy pl d m (threeT pl y 5 p q))) ∧ Below w.heap.size w w' := by
  have kp2 := fun W => rpairSp_any pl c d m le sk 2 (by omega) W
  have kq := fun W => rpairAf_any pl c d m le sk p hp W
  have zH := sy_size pl d m (pairT pl 2 [115, 112])
  have lH := pairT_le pl 2 [115, 112] (by simp)
  have zH : (sy pl d m (pairT pl 2 [115, 112])).size ≤ 100 := by omega
  clear lH
  generalize hRH : sy pl d m (pairT pl 2 [115, 112]) = RH at *
  have HH := Lib.hid hRH
  clear hRH
  have zQ := sy_size pl d m (pairT pl p [97, 102])
  have lQ := pairT_le pl p [97, 102] (by simp)
  have zQ : (sy pl d m (pairT pl p [97, 102])).size ≤ 100 := by omega
  clear lQ
  generalize hRQ : sy pl d m (pairT pl p [97, 102]) = RQ at *
  have HQ := Lib.hid hRQ
  clear hRQ
  have KP2 := Lib.hid kp2
  clear kp2
  have KQ := Lib.hid kq
  clear kq
  subst hqq
  go_enter Tryd.func24, Tryd.ntmps24
  go_wp2_with fail
  refine (KP2.out _).mono ?_
  rintro e w2 ⟨rfl, hb1⟩
  have r1 := (Row.new w 24 #[.int .i64 pl, .int .u8 c, .int .u8 d, .int .u16 m, .int .i64 le, .int .i64 sk]).below hb1 (by simp)
  have HB2 := Lib.hid (((Below.refl _ w).alloc (Nat.le_refl _) _).trans (hb1.mono (by simp)))
  have hs := row6c r1
  have hsz := r1.lt
  clear r1 hb1
  obtain ⟨o0, o1, o2, o3, o4, o5⟩ := hs
  go_wp2_with (first
    | (go_at_call 42; refine (KQ.out _).mono ?_; rintro e w' ⟨rfl, hb⟩; have hsz := hb.size))
  go_ret
  refine ⟨ret_bs ?_, HB2.out.trans (hb.mono HB2.out.size)⟩
  rw [show threeT pl y 5 p 0 = [112, 117, 115, 104, 32] ++ pairT pl p [97, 102] from rfl]
  simp only [← sy_app, HQ.out]
  all_goals rfl
set_option maxHeartbeats 8000000 in
theorem rthree5b (pl c d m le sk y p q : Int) (h0 : 0 ≤ m) (h1 : m ≤ 65535) (hy : 0 ≤ y ∧ y ≤ 7) (hp : 0 ≤ p ∧ p ≤ 3) (hq : 0 ≤ q ∧ q ≤ 1) (hqq : q = 1) (hpp : p = 0) (w : World) :
    Calls Tryd.prog 24 #[opV pl c d m le sk, .int .i64 y, .int .i64 5, .int .i64 p, .int .i64 q] w fun e w' => e = .returned (.string (sy pl d m (threeT pl y 5 p q))) ∧ Below w.heap.size w w' := by
  have kp2 := fun W => rpairSp_any pl c d m le sk 2 (by omega) W
  have kw := fun W => rnn_any pl c d m le sk h0 h1 W
  have zH := sy_size pl d m (pairT pl 2 [115, 112])
  have lH := pairT_le pl 2 [115, 112] (by simp)
  have zH : (sy pl d m (pairT pl 2 [115, 112])).size ≤ 100 := by omega
  clear lH
  generalize hRH : sy pl d m (pairT pl 2 [115, 112]) = RH at *
  have HH := Lib.hid hRH
  clear hRH
  have zW := sy_size pl d m ([257])
  have lW := (show [257].length ≤ 8 by simp)
  have zW : (sy pl d m ([257])).size ≤ 100 := by omega
  clear lW
  generalize hRW : sy pl d m ([257]) = RW at *
  have HW := Lib.hid hRW
  clear hRW
  have KP2 := Lib.hid kp2
  clear kp2
  have KW := Lib.hid kw
  clear kw
  subst hqq hpp
  go_enter Tryd.func24, Tryd.ntmps24
  go_wp2_with fail
  refine (KP2.out _).mono ?_
  rintro e w2 ⟨rfl, hb1⟩
  have r1 := (Row.new w 24 #[.int .i64 pl, .int .u8 c, .int .u8 d, .int .u16 m, .int .i64 le, .int .i64 sk]).below hb1 (by simp)
  have HB2 := Lib.hid (((Below.refl _ w).alloc (Nat.le_refl _) _).trans (hb1.mono (by simp)))
  have hs := row6c r1
  have hsz := r1.lt
  clear r1 hb1
  obtain ⟨o0, o1, o2, o3, o4, o5⟩ := hs
  go_wp2_with (first
    | (go_at_call 43; refine (KW.out _).mono ?_; rintro e w' ⟨rfl, hb⟩; have hsz := hb.size))
  go_ret
  refine ⟨ret_bs ?_, HB2.out.trans (hb.mono HB2.out.size)⟩
  rw [show threeT pl y 5 0 1 = [99, 97, 108, 108, 32] ++ [257] from rfl]
  simp only [← sy_app, HW.out]
  all_goals rfl
set_option maxHeartbeats 8000000 in
theorem rthree5c (pl c d m le sk y p q : Int) (h0 : 0 ≤ m) (h1 : m ≤ 65535) (hy : 0 ≤ y ∧ y ≤ 7) (hp : 0 ≤ p ∧ p ≤ 3) (hq : 0 ≤ q ∧ q ≤ 1) (hqq : q = 1) (hpp : p ≠ 0) (w : World) :
    Calls Tryd.prog 24 #[opV pl c d m le sk, .int .i64 y, .int .i64 5, .int .i64 p, .int .i64 q] w fun e w' => e = .returned (.string (sy pl d m (threeT pl y 5 p q))) ∧ Below w.heap.size w w' := by
  have kp2 := fun W => rpairSp_any pl c d m le sk 2 (by omega) W
  have zH := sy_size pl d m (pairT pl 2 [115, 112])
  have lH := pairT_le pl 2 [115, 112] (by simp)
  have zH : (sy pl d m (pairT pl 2 [115, 112])).size ≤ 100 := by omega
  clear lH
  generalize hRH : sy pl d m (pairT pl 2 [115, 112]) = RH at *
  have HH := Lib.hid hRH
  clear hRH
  have KP2 := Lib.hid kp2
  clear kp2
  subst hqq
  have hpb : (p == 0) = false := by simpa using hpp
  have HE := Lib.hid (show threeT pl y 5 p 1 = [112, 114, 101, 102, 105, 120] by simp [threeT, hpp])
  clear hpp
  go_enter Tryd.func24, Tryd.ntmps24
  go_wp2_with fail
  refine (KP2.out _).mono ?_
  rintro e w2 ⟨rfl, hb1⟩
  have r1 := (Row.new w 24 #[.int .i64 pl, .int .u8 c, .int .u8 d, .int .u16 m, .int .i64 le, .int .i64 sk]).below hb1 (by simp)
  have HB2 := Lib.hid (((Below.refl _ w).alloc (Nat.le_refl _) _).trans (hb1.mono (by simp)))
  have hs := row6c r1
  have hsz := r1.lt
  clear r1 hb1
  go_wp2
  go_ret
  refine ⟨ret_bs ?_, HB2.out⟩
  rw [HE.out]
  rfl
set_option maxHeartbeats 8000000 in
theorem rthree7 (pl c d m le sk y p q : Int) (h0 : 0 ≤ m) (h1 : m ≤ 65535) (hy : 0 ≤ y ∧ y ≤ 7) (hp : 0 ≤ p ∧ p ≤ 3) (hq : 0 ≤ q ∧ q ≤ 1)  (w : World) :
    Calls Tryd.prog 24 #[opV pl c d m le sk, .int .i64 y, .int .i64 7, .int .i64 p, .int .i64 q] w fun e w' => e = .returned (.string (sy pl d m (threeT pl y 7 p q))) ∧ Below w.heap.size w w' := by
  have kp2 := fun W => rpairSp_any pl c d m le sk 2 (by omega) W
  have zH := sy_size pl d m (pairT pl 2 [115, 112])
  have lH := pairT_le pl 2 [115, 112] (by simp)
  have zH : (sy pl d m (pairT pl 2 [115, 112])).size ≤ 100 := by omega
  clear lH
  generalize hRH : sy pl d m (pairT pl 2 [115, 112]) = RH at *
  have HH := Lib.hid hRH
  clear hRH
  have KP2 := Lib.hid kp2
  clear kp2
  have kx := fun W => rHex2_any (8 * y) (by omega) (by omega) W
  have hx := hex_rsts y hy
  rw [hexH2 (8 * y) (by omega) (by omega)] at hx
  have hX := pick_sy pl d m rstN (by decide) y
  rw [← hx] at hX
  have zX := la_size (hex2 (8 * y))
  have zX2 : (hex2 (8 * y)).length = 3 := rfl
  clear hx
  generalize (⟨(hex2 (8 * y)).toArray⟩ : ByteArray) = RX at *
  have zX3 : RX.size ≤ 3 := by omega
  have KX := Lib.hid kx
  have HX := Lib.hid hX
  clear kx hX zX zX2
  go_enter Tryd.func24, Tryd.ntmps24
  go_wp2_with fail
  refine (KP2.out _).mono ?_
  rintro e w2 ⟨rfl, hb1⟩
  have r1 := (Row.new w 24 #[.int .i64 pl, .int .u8 c, .int .u8 d, .int .u16 m, .int .i64 le, .int .i64 sk]).below hb1 (by simp)
  have HB2 := Lib.hid (((Below.refl _ w).alloc (Nat.le_refl _) _).trans (hb1.mono (by simp)))
  have hs := row6c r1
  have hsz := r1.lt
  clear r1 hb1
  go_wp2_with (first
    | (go_at_call 50; refine (KX.out _).mono ?_; rintro e w' ⟨rfl, hb⟩; have hsz := hb.size))
  go_ret
  refine ⟨ret_bs ?_, HB2.out.trans (hb.mono HB2.out.size)⟩
  rw [show threeT pl y 7 p q = [114, 115, 116, 32] ++ pick rstN y from rfl]
  simp only [← sy_app, HX.out]
  all_goals rfl
theorem rthree_any (pl c d m le sk y z p q : Int) (h0 : 0 ≤ m) (h1 : m ≤ 65535) (hy : 0 ≤ y ∧ y ≤ 7) (hz : 0 ≤ z ∧ z ≤ 7) (hp : 0 ≤ p ∧ p ≤ 3) (hq : 0 ≤ q ∧ q ≤ 1) (w : World) :
    Calls Tryd.prog 24 #[opV pl c d m le sk, .int .i64 y, .int .i64 z, .int .i64 p, .int .i64 q] w fun e w' => e = .returned (.string (sy pl d m (threeT pl y z p q))) ∧ Below w.heap.size w w' := by
  rcases eight z hz with rfl | rfl | rfl | rfl | rfl | rfl | rfl | rfl
  · exact rthree0 pl c d m le sk y p q h0 h1 hy hp hq w
  · obtain h | h : q = 0 ∨ q = 1 := by omega
    · exact rthree1a pl c d m le sk y p q h0 h1 hy hp hq h w
    · exact rthree1b pl c d m le sk y p q h0 h1 hy hp hq h w
  · exact rthree2 pl c d m le sk y p q h0 h1 hy hp hq w
  · exact rthree3 pl c d m le sk y p q h0 h1 hy hp hq w
  · exact rthree4 pl c d m le sk y p q h0 h1 hy hp hq w
  · obtain h | h : q = 0 ∨ q = 1 := by omega
    · exact rthree5a pl c d m le sk y p q h0 h1 hy hp hq h w
    · by_cases h' : p = 0
      · exact rthree5b pl c d m le sk y p q h0 h1 hy hp hq h h' w
      · exact rthree5c pl c d m le sk y p q h0 h1 hy hp hq h h' w
  · exact rthree6 pl c d m le sk y p q h0 h1 hy hp hq w
  · exact rthree7 pl c d m le sk y p q h0 h1 hy hp hq w
end Go.Proofs.YtgdpafldhmchpaaDoor
