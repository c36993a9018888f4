/- Layer 9 (text): the document's own: contract of zero. -/
import Derived.Test.YtgdpafldhmchpaaDoorTextRefS
import Derived.Deep.RegionHeld3
import Derived.Deep.DeepCutAuto
namespace Go.Proofs.YtgdpafldhmchpaaDoor
open Go.RowKit
set_option linter.unusedVariables false
set_option linter.unusedSimpArgs false

set_option maxHeartbeats 8000000 in
theorem rzero1a (pl c d m le sk y p q : Int) (hc : B8 c) (hd : B8 d) (h0 : 0 ≤ m) (h1 : m ≤ 65535) (hy : 0 ≤ y ∧ y ≤ 7) (hp : 0 ≤ p ∧ p ≤ 3) (hq : 0 ≤ q ∧ q ≤ 1) (hqq : q = 0) (w : World) :
    Calls Tryd.prog 21 #[opV pl c d m le sk, .int .i64 y, .int .i64 1, .int .i64 p, .int .i64 q] w fun e w' => e = .returned (.string (sy pl d m (zeroT pl (nearM pl c) y 1 p q))) ∧ Below w.heap.size w w' := by
  have kp2 := fun W => rpairSp_any pl c d m le sk 2 (by omega) W
  have kpp := fun W => rpairSp_any pl c d m le sk p hp W
  have kw := fun W => rnn_any pl c d m le sk h0 h1 W
  have zH := sy_size pl d m (pairT pl 2 [115, 112])
  have lH := pairT_le pl 2 [115, 112] (by simp)
  have zH : (sy pl d m (pairT pl 2 [115, 112])).size ≤ 100 := by omega
  clear lH
  generalize hRH : sy pl d m (pairT pl 2 [115, 112]) = RH at *
  have HH := Lib.hid hRH
  clear hRH
  have zP := sy_size pl d m (pairT pl p [115, 112])
  have lP := pairT_le pl p [115, 112] (by simp)
  have zP : (sy pl d m (pairT pl p [115, 112])).size ≤ 100 := by omega
  clear lP
  generalize hRP : sy pl d m (pairT pl p [115, 112]) = RP at *
  have HP := Lib.hid hRP
  clear hRP
  have zW := sy_size pl d m ([257])
  have lW := (show [257].length ≤ 8 by simp)
  have zW : (sy pl d m ([257])).size ≤ 100 := by omega
  clear lW
  generalize hRW : sy pl d m ([257]) = RW at *
  have HW := Lib.hid hRW
  clear hRW
  have KP2 := Lib.hid kp2
  have KPP := Lib.hid kpp
  clear kp2 kpp
  have KW := Lib.hid kw
  clear kw
  subst hqq
  go_enter Tryd.func21, Tryd.ntmps21
  go_wp2_with fail
  refine (KP2.out _).mono ?_
  rintro e w1 ⟨rfl, hb1⟩
  have r1 := (Row.new w 24 #[.int .i64 pl, .int .u8 c, .int .u8 d, .int .u16 m, .int .i64 le, .int .i64 sk]).below hb1 (by simp)
  have HB1 := Lib.hid (((Below.refl _ w).alloc (Nat.le_refl _) _).trans (hb1.mono (by simp)))
  obtain ⟨o0, o1, o2, o3, o4, o5⟩ := row6c r1
  have R1 := Lib.hid r1
  clear r1 hb1
  go_wp2_with fail
  refine (KPP.out _).mono ?_
  rintro e w2 ⟨rfl, hb2⟩
  have r2 := R1.out.below hb2 R1.out.lt
  have HB2 := Lib.hid (HB1.out.trans (hb2.mono HB1.out.size))
  clear hb2 o0 o1 o2 o3 o4 o5
  have hs := row6c r2
  have hsz := r2.lt
  clear r2
  obtain ⟨o0, o1, o2, o3, o4, o5⟩ := hs
  go_wp2_with (first
    | (go_at_call 43; refine (KW.out _).mono ?_; rintro e w' ⟨rfl, hb⟩; have hsz := hb.size))
  go_ret
  refine ⟨ret_bs ?_, HB2.out.trans (hb.mono HB2.out.size)⟩
  rw [show zeroT pl (nearM pl c) y 1 p 0 = [108, 100, 32] ++ pairT pl p [115, 112] ++ [44] ++ [257] from rfl]
  simp only [← sy_app, HP.out, HW.out]
  rfl
set_option maxHeartbeats 8000000 in
theorem rzero1b (pl c d m le sk y p q : Int) (hc : B8 c) (hd : B8 d) (h0 : 0 ≤ m) (h1 : m ≤ 65535) (hy : 0 ≤ y ∧ y ≤ 7) (hp : 0 ≤ p ∧ p ≤ 3) (hq : 0 ≤ q ∧ q ≤ 1) (hqq : q = 1) (w : World) :
    Calls Tryd.prog 21 #[opV pl c d m le sk, .int .i64 y, .int .i64 1, .int .i64 p, .int .i64 q] w fun e w' => e = .returned (.string (sy pl d m (zeroT pl (nearM pl c) y 1 p q))) ∧ Below w.heap.size w w' := by
  have kp2 := fun W => rpairSp_any pl c d m le sk 2 (by omega) W
  have kpp := fun W => rpairSp_any pl c d m le sk p hp W
  have zH := sy_size pl d m (pairT pl 2 [115, 112])
  have lH := pairT_le pl 2 [115, 112] (by simp)
  have zH : (sy pl d m (pairT pl 2 [115, 112])).size ≤ 100 := by omega
  clear lH
  generalize hRH : sy pl d m (pairT pl 2 [115, 112]) = RH at *
  have HH := Lib.hid hRH
  clear hRH
  have zP := sy_size pl d m (pairT pl p [115, 112])
  have lP := pairT_le pl p [115, 112] (by simp)
  have zP : (sy pl d m (pairT pl p [115, 112])).size ≤ 100 := by omega
  clear lP
  generalize hRP : sy pl d m (pairT pl p [115, 112]) = RP at *
  have HP := Lib.hid hRP
  clear hRP
  have KP2 := Lib.hid kp2
  have KPP := Lib.hid kpp
  clear kp2 kpp
  subst hqq
  go_enter Tryd.func21, Tryd.ntmps21
  go_wp2_with fail
  refine (KP2.out _).mono ?_
  rintro e w1 ⟨rfl, hb1⟩
  have r1 := (Row.new w 24 #[.int .i64 pl, .int .u8 c, .int .u8 d, .int .u16 m, .int .i64 le, .int .i64 sk]).below hb1 (by simp)
  have HB1 := Lib.hid (((Below.refl _ w).alloc (Nat.le_refl _) _).trans (hb1.mono (by simp)))
  obtain ⟨o0, o1, o2, o3, o4, o5⟩ := row6c r1
  have R1 := Lib.hid r1
  clear r1 hb1
  go_wp2_with fail
  refine (KPP.out _).mono ?_
  rintro e w2 ⟨rfl, hb2⟩
  have r2 := R1.out.below hb2 R1.out.lt
  have HB2 := Lib.hid (HB1.out.trans (hb2.mono HB1.out.size))
  clear hb2 o0 o1 o2 o3 o4 o5
  have hs := row6c r2
  have hsz := r2.lt
  clear r2
  go_wp2
  go_ret
  refine ⟨ret_bs ?_, HB2.out⟩
  rw [show zeroT pl (nearM pl c) y 1 p 1 = [97, 100, 100, 32] ++ pairT pl 2 [115, 112] ++ [44] ++ pairT pl p [115, 112] from rfl]
  simp only [← sy_app, HH.out, HP.out]
  rfl
set_option maxHeartbeats 8000000 in
theorem rzero4 (pl c d m le sk y p q : Int) (hc : B8 c) (hd : B8 d) (h0 : 0 ≤ m) (h1 : m ≤ 65535) (hy : 0 ≤ y ∧ y ≤ 7) (hp : 0 ≤ p ∧ p ≤ 3) (hq : 0 ≤ q ∧ q ≤ 1)  (w : World) :
    Calls Tryd.prog 21 #[opV pl c d m le sk, .int .i64 y, .int .i64 4, .int .i64 p, .int .i64 q] w fun e w' => e = .returned (.string (sy pl d m (zeroT pl (nearM pl c) y 4 p q))) ∧ Below w.heap.size w w' := by
  have kp2 := fun W => rpairSp_any pl c d m le sk 2 (by omega) W
  have kpp := fun W => rpairSp_any pl c d m le sk p hp W
  have kr := fun W => rreg_any pl c d m le sk y hc hd hy W
  have zH := sy_size pl d m (pairT pl 2 [115, 112])
  have lH := pairT_le pl 2 [115, 112] (by simp)
  have zH : (sy pl d m (pairT pl 2 [115, 112])).size ≤ 100 := by omega
  clear lH
  generalize hRH : sy pl d m (pairT pl 2 [115, 112]) = RH at *
  have HH := Lib.hid hRH
  clear hRH
  have zP := sy_size pl d m (pairT pl p [115, 112])
  have lP := pairT_le pl p [115, 112] (by simp)
  have zP : (sy pl d m (pairT pl p [115, 112])).size ≤ 100 := by omega
  clear lP
  generalize hRP : sy pl d m (pairT pl p [115, 112]) = RP at *
  have HP := Lib.hid hRP
  clear hRP
  have zR := sy_size pl d m (regT pl (nearM pl c) y)
  have lR := regT_le pl (nearM pl c) y
  have zR : (sy pl d m (regT pl (nearM pl c) y)).size ≤ 100 := by omega
  clear lR
  generalize hRR : sy pl d m (regT pl (nearM pl c) y) = RR at *
  have HR := Lib.hid hRR
  clear hRR
  have KP2 := Lib.hid kp2
  have KPP := Lib.hid kpp
  clear kp2 kpp
  have KR := Lib.hid kr
  clear kr
  go_enter Tryd.func21, Tryd.ntmps21
  go_wp2_with fail
  refine (KP2.out _).mono ?_
  rintro e w1 ⟨rfl, hb1⟩
  have r1 := (Row.new w 24 #[.int .i64 pl, .int .u8 c, .int .u8 d, .int .u16 m, .int .i64 le, .int .i64 sk]).below hb1 (by simp)
  have HB1 := Lib.hid (((Below.refl _ w).alloc (Nat.le_refl _) _).trans (hb1.mono (by simp)))
  obtain ⟨o0, o1, o2, o3, o4, o5⟩ := row6c r1
  have R1 := Lib.hid r1
  clear r1 hb1
  go_wp2_with fail
  refine (KPP.out _).mono ?_
  rintro e w2 ⟨rfl, hb2⟩
  have r2 := R1.out.below hb2 R1.out.lt
  have HB2 := Lib.hid (HB1.out.trans (hb2.mono HB1.out.size))
  clear hb2 o0 o1 o2 o3 o4 o5
  have hs := row6c r2
  have hsz := r2.lt
  clear r2
  obtain ⟨o0, o1, o2, o3, o4, o5⟩ := hs
  go_wp2_with (first
    | (go_at_call 22; refine (KR.out _).mono ?_; rintro e w' ⟨rfl, hb⟩; have hsz := hb.size))
  go_ret
  refine ⟨ret_bs ?_, HB2.out.trans (hb.mono HB2.out.size)⟩
  rw [show zeroT pl (nearM pl c) y 4 p q = [105, 110, 99, 32] ++ regT pl (nearM pl c) y from rfl]
  simp only [← sy_app, HR.out]
  rfl
set_option maxHeartbeats 8000000 in
theorem rzero5 (pl c d m le sk y p q : Int) (hc : B8 c) (hd : B8 d) (h0 : 0 ≤ m) (h1 : m ≤ 65535) (hy : 0 ≤ y ∧ y ≤ 7) (hp : 0 ≤ p ∧ p ≤ 3) (hq : 0 ≤ q ∧ q ≤ 1)  (w : World) :
    Calls Tryd.prog 21 #[opV pl c d m le sk, .int .i64 y, .int .i64 5, .int .i64 p, .int .i64 q] w fun e w' => e = .returned (.string (sy pl d m (zeroT pl (nearM pl c) y 5 p q))) ∧ Below w.heap.size w w' := by
  have kp2 := fun W => rpairSp_any pl c d m le sk 2 (by omega) W
  have kpp := fun W => rpairSp_any pl c d m le sk p hp W
  have kr := fun W => rreg_any pl c d m le sk y hc hd hy W
  have zH := sy_size pl d m (pairT pl 2 [115, 112])
  have lH := pairT_le pl 2 [115, 112] (by simp)
  have zH : (sy pl d m (pairT pl 2 [115, 112])).size ≤ 100 := by omega
  clear lH
  generalize hRH : sy pl d m (pairT pl 2 [115, 112]) = RH at *
  have HH := Lib.hid hRH
  clear hRH
  have zP := sy_size pl d m (pairT pl p [115, 112])
  have lP := pairT_le pl p [115, 112] (by simp)
  have zP : (sy pl d m (pairT pl p [115, 112])).size ≤ 100 := by omega
  clear lP
  generalize hRP : sy pl d m (pairT pl p [115, 112]) = RP at *
  have HP := Lib.hid hRP
  clear hRP
  have zR := sy_size pl d m (regT pl (nearM pl c) y)
  have lR := regT_le pl (nearM pl c) y
  have zR : (sy pl d m (regT pl (nearM pl c) y)).size ≤ 100 := by omega
  clear lR
  generalize hRR : sy pl d m (regT pl (nearM pl c) y) = RR at *
  have HR := Lib.hid hRR
  clear hRR
  have KP2 := Lib.hid kp2
  have KPP := Lib.hid kpp
  clear kp2 kpp
  have KR := Lib.hid kr
  clear kr
  go_enter Tryd.func21, Tryd.ntmps21
  go_wp2_with fail
  refine (KP2.out _).mono ?_
  rintro e w1 ⟨rfl, hb1⟩
  have r1 := (Row.new w 24 #[.int .i64 pl, .int .u8 c, .int .u8 d, .int .u16 m, .int .i64 le, .int .i64 sk]).below hb1 (by simp)
  have HB1 := Lib.hid (((Below.refl _ w).alloc (Nat.le_refl _) _).trans (hb1.mono (by simp)))
  obtain ⟨o0, o1, o2, o3, o4, o5⟩ := row6c r1
  have R1 := Lib.hid r1
  clear r1 hb1
  go_wp2_with fail
  refine (KPP.out _).mono ?_
  rintro e w2 ⟨rfl, hb2⟩
  have r2 := R1.out.below hb2 R1.out.lt
  have HB2 := Lib.hid (HB1.out.trans (hb2.mono HB1.out.size))
  clear hb2 o0 o1 o2 o3 o4 o5
  have hs := row6c r2
  have hsz := r2.lt
  clear r2
  obtain ⟨o0, o1, o2, o3, o4, o5⟩ := hs
  go_wp2_with (first
    | (go_at_call 22; refine (KR.out _).mono ?_; rintro e w' ⟨rfl, hb⟩; have hsz := hb.size))
  go_ret
  refine ⟨ret_bs ?_, HB2.out.trans (hb.mono HB2.out.size)⟩
  rw [show zeroT pl (nearM pl c) y 5 p q = [100, 101, 99, 32] ++ regT pl (nearM pl c) y from rfl]
  simp only [← sy_app, HR.out]
  rfl
set_option maxHeartbeats 8000000 in
theorem rzero6 (pl c d m le sk y p q : Int) (hc : B8 c) (hd : B8 d) (h0 : 0 ≤ m) (h1 : m ≤ 65535) (hy : 0 ≤ y ∧ y ≤ 7) (hp : 0 ≤ p ∧ p ≤ 3) (hq : 0 ≤ q ∧ q ≤ 1)  (w : World) :
    Calls Tryd.prog 21 #[opV pl c d m le sk, .int .i64 y, .int .i64 6, .int .i64 p, .int .i64 q] w fun e w' => e = .returned (.string (sy pl d m (zeroT pl (nearM pl c) y 6 p q))) ∧ Below w.heap.size w w' := by
  have kp2 := fun W => rpairSp_any pl c d m le sk 2 (by omega) W
  have kpp := fun W => rpairSp_any pl c d m le sk p hp W
  have kr := fun W => rreg_any pl c d m le sk y hc hd hy W
  have kn := fun W => rn_any pl c d m le sk h0 h1 W
  have zH := sy_size pl d m (pairT pl 2 [115, 112])
  have lH := pairT_le pl 2 [115, 112] (by simp)
  have zH : (sy pl d m (pairT pl 2 [115, 112])).size ≤ 100 := by omega
  clear lH
  generalize hRH : sy pl d m (pairT pl 2 [115, 112]) = RH at *
  have HH := Lib.hid hRH
  clear hRH
  have zP := sy_size pl d m (pairT pl p [115, 112])
  have lP := pairT_le pl p [115, 112] (by simp)
  have zP : (sy pl d m (pairT pl p [115, 112])).size ≤ 100 := by omega
  clear lP
  generalize hRP : sy pl d m (pairT pl p [115, 112]) = RP at *
  have HP := Lib.hid hRP
  clear hRP
  have zR := sy_size pl d m (regT pl (nearM pl c) y)
  have lR := regT_le pl (nearM pl c) y
  have zR : (sy pl d m (regT pl (nearM pl c) y)).size ≤ 100 := by omega
  clear lR
  generalize hRR : sy pl d m (regT pl (nearM pl c) y) = RR at *
  have HR := Lib.hid hRR
  clear hRR
  have zN := sy_size pl d m ([256])
  have lN := (show [256].length ≤ 8 by simp)
  have zN : (sy pl d m ([256])).size ≤ 100 := by omega
  clear lN
  generalize hRN : sy pl d m ([256]) = RN at *
  have HN := Lib.hid hRN
  clear hRN
  have KP2 := Lib.hid kp2
  have KPP := Lib.hid kpp
  clear kp2 kpp
  have KR := Lib.hid kr
  clear kr
  have KN := Lib.hid kn
  clear kn
  go_enter Tryd.func21, Tryd.ntmps21
  go_wp2_with fail
  refine (KP2.out _).mono ?_
  rintro e w1 ⟨rfl, hb1⟩
  have r1 := (Row.new w 24 #[.int .i64 pl, .int .u8 c, .int .u8 d, .int .u16 m, .int .i64 le, .int .i64 sk]).below hb1 (by simp)
  have HB1 := Lib.hid (((Below.refl _ w).alloc (Nat.le_refl _) _).trans (hb1.mono (by simp)))
  obtain ⟨o0, o1, o2, o3, o4, o5⟩ := row6c r1
  have R1 := Lib.hid r1
  clear r1 hb1
  go_wp2_with fail
  refine (KPP.out _).mono ?_
  rintro e w2 ⟨rfl, hb2⟩
  have r2 := R1.out.below hb2 R1.out.lt
  have HB2 := Lib.hid (HB1.out.trans (hb2.mono HB1.out.size))
  clear hb2 o0 o1 o2 o3 o4 o5
  have hs := row6c r2
  have hsz := r2.lt
  clear r2
  have b0 : ¬ 9223372036854775807 < 3 + RR.size := by omega
  have b1 : ¬ 9223372036854775807 < 3 + RR.size + 1 := by omega
  have b2 : ¬ 9223372036854775807 < 3 + RR.size + 1 + RN.size := by omega
  go_wp2_with fail
  go_region_held3 (fun w' => w'.cell? ⟨w.heap.size, 0, none⟩ = some (.int .i64 pl) ∧ w'.cell? ⟨w.heap.size, 1, none⟩ = some (.int .u8 c) ∧ w'.cell? ⟨w.heap.size, 2, none⟩ = some (.int .u8 d) ∧ w'.cell? ⟨w.heap.size, 3, none⟩ = some (.int .u16 m) ∧ w'.cell? ⟨w.heap.size, 4, none⟩ = some (.int .i64 le) ∧ w'.cell? ⟨w.heap.size, 5, none⟩ = some (.int .i64 sk)) (first | with_reducible assumption | exact hs | with_reducible exact keep6r hb (by with_reducible assumption))
    (first
    | (go_at_call 22; refine (KR.out _).mono ?_; rintro e w3 ⟨rfl, hb⟩; have HB3 := Lib.hid (HB2.out.trans ((Below.drew (Below.refl _ w2)).trans hb |>.mono HB2.out.size)))
    | (go_at_call 46; refine (KN.out _).mono ?_; rintro e w4 ⟨rfl, hb⟩; have HB4 := Lib.hid (HB3.out.trans (hb.mono HB3.out.size))))
  go_wp2
  go_ret
  refine ⟨ret_bs ?_, HB4.out⟩
  rw [show zeroT pl (nearM pl c) y 6 p q = [108, 100, 32] ++ regT pl (nearM pl c) y ++ [44] ++ [256] from rfl]
  simp only [← sy_app, HR.out, HN.out]
  rfl
set_option maxHeartbeats 8000000 in
theorem rzero7 (pl c d m le sk y p q : Int) (hc : B8 c) (hd : B8 d) (h0 : 0 ≤ m) (h1 : m ≤ 65535) (hy : 0 ≤ y ∧ y ≤ 7) (hp : 0 ≤ p ∧ p ≤ 3) (hq : 0 ≤ q ∧ q ≤ 1)  (w : World) :
    Calls Tryd.prog 21 #[opV pl c d m le sk, .int .i64 y, .int .i64 7, .int .i64 p, .int .i64 q] w fun e w' => e = .returned (.string (sy pl d m (zeroT pl (nearM pl c) y 7 p q))) ∧ Below w.heap.size w w' := by
  have kp2 := fun W => rpairSp_any pl c d m le sk 2 (by omega) W
  have kpp := fun W => rpairSp_any pl c d m le sk p hp W
  have zH := sy_size pl d m (pairT pl 2 [115, 112])
  have lH := pairT_le pl 2 [115, 112] (by simp)
  have zH : (sy pl d m (pairT pl 2 [115, 112])).size ≤ 100 := by omega
  clear lH
  generalize hRH : sy pl d m (pairT pl 2 [115, 112]) = RH at *
  have HH := Lib.hid hRH
  clear hRH
  have zP := sy_size pl d m (pairT pl p [115, 112])
  have lP := pairT_le pl p [115, 112] (by simp)
  have zP : (sy pl d m (pairT pl p [115, 112])).size ≤ 100 := by omega
  clear lP
  generalize hRP : sy pl d m (pairT pl p [115, 112]) = RP at *
  have HP := Lib.hid hRP
  clear hRP
  have KP2 := Lib.hid kp2
  have KPP := Lib.hid kpp
  clear kp2 kpp
  clear hc hd
  rcases eight y hy with rfl | rfl | rfl | rfl | rfl | rfl | rfl | rfl
  all_goals
    go_enter Tryd.func21, Tryd.ntmps21
    go_wp2_with fail
    refine (KP2.out _).mono ?_
    rintro e w1 ⟨rfl, hb1⟩
    have r1 := (Row.new w 24 #[.int .i64 pl, .int .u8 c, .int .u8 d, .int .u16 m, .int .i64 le, .int .i64 sk]).below hb1 (by simp)
    have HB1 := Lib.hid (((Below.refl _ w).alloc (Nat.le_refl _) _).trans (hb1.mono (by simp)))
    obtain ⟨o0, o1, o2, o3, o4, o5⟩ := row6c r1
    have R1 := Lib.hid r1
    clear r1 hb1
    go_wp2_with fail
    refine (KPP.out _).mono ?_
    rintro e w2 ⟨rfl, hb2⟩
    have r2 := R1.out.below hb2 R1.out.lt
    have HB2 := Lib.hid (HB1.out.trans (hb2.mono HB1.out.size))
    clear hb2 o0 o1 o2 o3 o4 o5
    have hs := row6c r2
    have hsz := r2.lt
    clear r2
    go_wp2
    go_ret
    refine ⟨ret_bs ?_, HB2.out.alloc HB2.out.size _⟩
    rfl
set_option maxHeartbeats 8000000 in
theorem rzero3 (pl c d m le sk y p q : Int) (hc : B8 c) (hd : B8 d) (h0 : 0 ≤ m) (h1 : m ≤ 65535) (hy : 0 ≤ y ∧ y ≤ 7) (hp : 0 ≤ p ∧ p ≤ 3) (hq : 0 ≤ q ∧ q ≤ 1)  (w : World) :
    Calls Tryd.prog 21 #[opV pl c d m le sk, .int .i64 y, .int .i64 3, .int .i64 p, .int .i64 q] w fun e w' => e = .returned (.string (sy pl d m (zeroT pl (nearM pl c) y 3 p q))) ∧ Below w.heap.size w w' := by
  have kp2 := fun W => rpairSp_any pl c d m le sk 2 (by omega) W
  have kpp := fun W => rpairSp_any pl c d m le sk p hp W
  have zH := sy_size pl d m (pairT pl 2 [115, 112])
  have lH := pairT_le pl 2 [115, 112] (by simp)
  have zH : (sy pl d m (pairT pl 2 [115, 112])).size ≤ 100 := by omega
  clear lH
  generalize hRH : sy pl d m (pairT pl 2 [115, 112]) = RH at *
  have HH := Lib.hid hRH
  clear hRH
  have zP := sy_size pl d m (pairT pl p [115, 112])
  have lP := pairT_le pl p [115, 112] (by simp)
  have zP : (sy pl d m (pairT pl p [115, 112])).size ≤ 100 := by omega
  clear lP
  generalize hRP : sy pl d m (pairT pl p [115, 112]) = RP at *
  have HP := Lib.hid hRP
  clear hRP
  have KP2 := Lib.hid kp2
  have KPP := Lib.hid kpp
  clear kp2 kpp
  obtain rfl | rfl : q = 0 ∨ q = 1 := by omega
  · go_enter Tryd.func21, Tryd.ntmps21
    go_wp2_with fail
    refine (KP2.out _).mono ?_
    rintro e w1 ⟨rfl, hb1⟩
    have r1 := (Row.new w 24 #[.int .i64 pl, .int .u8 c, .int .u8 d, .int .u16 m, .int .i64 le, .int .i64 sk]).below hb1 (by simp)
    have HB1 := Lib.hid (((Below.refl _ w).alloc (Nat.le_refl _) _).trans (hb1.mono (by simp)))
    obtain ⟨o0, o1, o2, o3, o4, o5⟩ := row6c r1
    have R1 := Lib.hid r1
    clear r1 hb1
    go_wp2_with fail
    refine (KPP.out _).mono ?_
    rintro e w2 ⟨rfl, hb2⟩
    have r2 := R1.out.below hb2 R1.out.lt
    have HB2 := Lib.hid (HB1.out.trans (hb2.mono HB1.out.size))
    clear hb2 o0 o1 o2 o3 o4 o5
    have hs := row6c r2
    have hsz := r2.lt
    clear r2
    go_wp2
    go_ret
    refine ⟨ret_bs ?_, HB2.out.alloc HB2.out.size _⟩
    rw [show zeroT pl (nearM pl c) y 3 p 0 = [105, 110, 99, 32] ++ pairT pl p [115, 112] from rfl]
    simp only [← sy_app, HP.out]
    rfl
  · go_enter Tryd.func21, Tryd.ntmps21
    go_wp2_with fail
    refine (KP2.out _).mono ?_
    rintro e w1 ⟨rfl, hb1⟩
    have r1 := (Row.new w 24 #[.int .i64 pl, .int .u8 c, .int .u8 d, .int .u16 m, .int .i64 le, .int .i64 sk]).below hb1 (by simp)
    have HB1 := Lib.hid (((Below.refl _ w).alloc (Nat.le_refl _) _).trans (hb1.mono (by simp)))
    obtain ⟨o0, o1, o2, o3, o4, o5⟩ := row6c r1
    have R1 := Lib.hid r1
    clear r1 hb1
    go_wp2_with fail
    refine (KPP.out _).mono ?_
    rintro e w2 ⟨rfl, hb2⟩
    have r2 := R1.out.below hb2 R1.out.lt
    have HB2 := Lib.hid (HB1.out.trans (hb2.mono HB1.out.size))
    clear hb2 o0 o1 o2 o3 o4 o5
    have hs := row6c r2
    have hsz := r2.lt
    clear r2
    go_wp2
    go_ret
    refine ⟨ret_bs ?_, HB2.out.alloc HB2.out.size _⟩
    rw [show zeroT pl (nearM pl c) y 3 p 1 = [100, 101, 99, 32] ++ pairT pl p [115, 112] from rfl]
    simp only [← sy_app, HP.out]
    rfl
set_option maxHeartbeats 8000000 in
theorem rzero2 (pl c d m le sk y p q : Int) (hc : B8 c) (hd : B8 d) (h0 : 0 ≤ m) (h1 : m ≤ 65535) (hy : 0 ≤ y ∧ y ≤ 7) (hp : 0 ≤ p ∧ p ≤ 3) (hq : 0 ≤ q ∧ q ≤ 1)  (w : World) :
    Calls Tryd.prog 21 #[opV pl c d m le sk, .int .i64 y, .int .i64 2, .int .i64 p, .int .i64 q] w fun e w' => e = .returned (.string (sy pl d m (zeroT pl (nearM pl c) y 2 p q))) ∧ Below w.heap.size w w' := by
  have kp2 := fun W => rpairSp_any pl c d m le sk 2 (by omega) W
  have kpp := fun W => rpairSp_any pl c d m le sk p hp W
  have kw := fun W => rnn_any pl c d m le sk h0 h1 W
  have zH := sy_size pl d m (pairT pl 2 [115, 112])
  have lH := pairT_le pl 2 [115, 112] (by simp)
  have zH : (sy pl d m (pairT pl 2 [115, 112])).size ≤ 100 := by omega
  clear lH
  generalize hRH : sy pl d m (pairT pl 2 [115, 112]) = RH at *
  have HH := Lib.hid hRH
  clear hRH
  have zP := sy_size pl d m (pairT pl p [115, 112])
  have lP := pairT_le pl p [115, 112] (by simp)
  have zP : (sy pl d m (pairT pl p [115, 112])).size ≤ 100 := by omega
  clear lP
  generalize hRP : sy pl d m (pairT pl p [115, 112]) = RP at *
  have HP := Lib.hid hRP
  clear hRP
  have zW := sy_size pl d m ([257])
  have lW := (show [257].length ≤ 8 by simp)
  have zW : (sy pl d m ([257])).size ≤ 100 := by omega
  clear lW
  generalize hRW : sy pl d m ([257]) = RW at *
  have HW := Lib.hid hRW
  clear hRW
  have KP2 := Lib.hid kp2
  have KPP := Lib.hid kpp
  clear kp2 kpp
  have KW := Lib.hid kw
  clear kw
  rcases eight y hy with rfl | rfl | rfl | rfl | rfl | rfl | rfl | rfl
  · go_enter Tryd.func21, Tryd.ntmps21
    go_wp2_with fail
    refine (KP2.out _).mono ?_
    rintro e w1 ⟨rfl, hb1⟩
    have r1 := (Row.new w 24 #[.int .i64 pl, .int .u8 c, .int .u8 d, .int .u16 m, .int .i64 le, .int .i64 sk]).below hb1 (by simp)
    have HB1 := Lib.hid (((Below.refl _ w).alloc (Nat.le_refl _) _).trans (hb1.mono (by simp)))
    obtain ⟨o0, o1, o2, o3, o4, o5⟩ := row6c r1
    have R1 := Lib.hid r1
    clear r1 hb1
    go_wp2_with fail
    refine (KPP.out _).mono ?_
    rintro e w2 ⟨rfl, hb2⟩
    have r2 := R1.out.below hb2 R1.out.lt
    have HB2 := Lib.hid (HB1.out.trans (hb2.mono HB1.out.size))
    clear hb2 o0 o1 o2 o3 o4 o5
    have hs := row6c r2
    have hsz := r2.lt
    clear r2
    obtain ⟨o0, o1, o2, o3, o4, o5⟩ := hs
    go_wp2_with (first
      | (go_at_call 43; refine (KW.out _).mono ?_; rintro e w' ⟨rfl, hb⟩; have hsz := hb.size))
    go_ret
    refine ⟨ret_bs ?_, (HB2.out.trans (hb.mono HB2.out.size)).alloc (HB2.out.trans (hb.mono HB2.out.size)).size _⟩
    rfl
  · go_enter Tryd.func21, Tryd.ntmps21
    go_wp2_with fail
    refine (KP2.out _).mono ?_
    rintro e w1 ⟨rfl, hb1⟩
    have r1 := (Row.new w 24 #[.int .i64 pl, .int .u8 c, .int .u8 d, .int .u16 m, .int .i64 le, .int .i64 sk]).below hb1 (by simp)
    have HB1 := Lib.hid (((Below.refl _ w).alloc (Nat.le_refl _) _).trans (hb1.mono (by simp)))
    obtain ⟨o0, o1, o2, o3, o4, o5⟩ := row6c r1
    have R1 := Lib.hid r1
    clear r1 hb1
    go_wp2_with fail
    refine (KPP.out _).mono ?_
    rintro e w2 ⟨rfl, hb2⟩
    have r2 := R1.out.below hb2 R1.out.lt
    have HB2 := Lib.hid (HB1.out.trans (hb2.mono HB1.out.size))
    clear hb2 o0 o1 o2 o3 o4 o5
    have hs := row6c r2
    have hsz := r2.lt
    clear r2
    obtain ⟨o0, o1, o2, o3, o4, o5⟩ := hs
    go_wp2_with (first
      | (go_at_call 43; refine (KW.out _).mono ?_; rintro e w' ⟨rfl, hb⟩; have hsz := hb.size))
    go_ret
    refine ⟨ret_bs ?_, (HB2.out.trans (hb.mono HB2.out.size)).alloc (HB2.out.trans (hb.mono HB2.out.size)).size _⟩
    rfl
  · go_enter Tryd.func21, Tryd.ntmps21
    go_wp2_with fail
    refine (KP2.out _).mono ?_
    rintro e w1 ⟨rfl, hb1⟩
    have r1 := (Row.new w 24 #[.int .i64 pl, .int .u8 c, .int .u8 d, .int .u16 m, .int .i64 le, .int .i64 sk]).below hb1 (by simp)
    have HB1 := Lib.hid (((Below.refl _ w).alloc (Nat.le_refl _) _).trans (hb1.mono (by simp)))
    obtain ⟨o0, o1, o2, o3, o4, o5⟩ := row6c r1
    have R1 := Lib.hid r1
    clear r1 hb1
    go_wp2_with fail
    refine (KPP.out _).mono ?_
    rintro e w2 ⟨rfl, hb2⟩
    have r2 := R1.out.below hb2 R1.out.lt
    have HB2 := Lib.hid (HB1.out.trans (hb2.mono HB1.out.size))
    clear hb2 o0 o1 o2 o3 o4 o5
    have hs := row6c r2
    have hsz := r2.lt
    clear r2
    obtain ⟨o0, o1, o2, o3, o4, o5⟩ := hs
    go_wp2_with (first
      | (go_at_call 43; refine (KW.out _).mono ?_; rintro e w' ⟨rfl, hb⟩; have hsz := hb.size))
    go_ret
    refine ⟨ret_bs ?_, (HB2.out.trans (hb.mono HB2.out.size)).alloc (HB2.out.trans (hb.mono HB2.out.size)).size _⟩
    rfl
  · go_enter Tryd.func21, Tryd.ntmps21
    go_wp2_with fail
    refine (KP2.out _).mono ?_
    rintro e w1 ⟨rfl, hb1⟩
    have r1 := (Row.new w 24 #[.int .i64 pl, .int .u8 c, .int .u8 d, .int .u16 m, .int .i64 le, .int .i64 sk]).below hb1 (by simp)
    have HB1 := Lib.hid (((Below.refl _ w).alloc (Nat.le_refl _) _).trans (hb1.mono (by simp)))
    obtain ⟨o0, o1, o2, o3, o4, o5⟩ := row6c r1
    have R1 := Lib.hid r1
    clear r1 hb1
    go_wp2_with fail
    refine (KPP.out _).mono ?_
    rintro e w2 ⟨rfl, hb2⟩
    have r2 := R1.out.below hb2 R1.out.lt
    have HB2 := Lib.hid (HB1.out.trans (hb2.mono HB1.out.size))
    clear hb2 o0 o1 o2 o3 o4 o5
    have hs := row6c r2
    have hsz := r2.lt
    clear r2
    obtain ⟨o0, o1, o2, o3, o4, o5⟩ := hs
    go_wp2_with (first
      | (go_at_call 43; refine (KW.out _).mono ?_; rintro e w' ⟨rfl, hb⟩; have hsz := hb.size))
    go_ret
    refine ⟨ret_bs ?_, (HB2.out.trans (hb.mono HB2.out.size)).alloc (HB2.out.trans (hb.mono HB2.out.size)).size _⟩
    rfl
  · go_enter Tryd.func21, Tryd.ntmps21
    go_wp2_with fail
    refine (KP2.out _).mono ?_
    rintro e w1 ⟨rfl, hb1⟩
    have r1 := (Row.new w 24 #[.int .i64 pl, .int .u8 c, .int .u8 d, .int .u16 m, .int .i64 le, .int .i64 sk]).below hb1 (by simp)
    have HB1 := Lib.hid (((Below.refl _ w).alloc (Nat.le_refl _) _).trans (hb1.mono (by simp)))
    obtain ⟨o0, o1, o2, o3, o4, o5⟩ := row6c r1
    have R1 := Lib.hid r1
    clear r1 hb1
    go_wp2_with fail
    refine (KPP.out _).mono ?_
    rintro e w2 ⟨rfl, hb2⟩
    have r2 := R1.out.below hb2 R1.out.lt
    have HB2 := Lib.hid (HB1.out.trans (hb2.mono HB1.out.size))
    clear hb2 o0 o1 o2 o3 o4 o5
    have hs := row6c r2
    have hsz := r2.lt
    clear r2
    obtain ⟨o0, o1, o2, o3, o4, o5⟩ := hs
    go_wp2_with (first
      | (go_at_call 43; refine (KW.out _).mono ?_; rintro e w' ⟨rfl, hb⟩; have hsz := hb.size))
    go_ret
    refine ⟨ret_bs ?_, (HB2.out.trans (hb.mono HB2.out.size)).alloc (HB2.out.trans (hb.mono HB2.out.size)).size _⟩
    rw [show zeroT pl (nearM pl c) 4 2 p q = [108, 100, 32] ++ ([40] ++ [257] ++ [41]) ++ [44] ++ pairT pl 2 [115, 112] from rfl]
    simp only [← sy_app, HH.out, HW.out]
    rfl
  · go_enter Tryd.func21, Tryd.ntmps21
    go_wp2_with fail
    refine (KP2.out _).mono ?_
    rintro e w1 ⟨rfl, hb1⟩
    have r1 := (Row.new w 24 #[.int .i64 pl, .int .u8 c, .int .u8 d, .int .u16 m, .int .i64 le, .int .i64 sk]).below hb1 (by simp)
    have HB1 := Lib.hid (((Below.refl _ w).alloc (Nat.le_refl _) _).trans (hb1.mono (by simp)))
    obtain ⟨o0, o1, o2, o3, o4, o5⟩ := row6c r1
    have R1 := Lib.hid r1
    clear r1 hb1
    go_wp2_with fail
    refine (KPP.out _).mono ?_
    rintro e w2 ⟨rfl, hb2⟩
    have r2 := R1.out.below hb2 R1.out.lt
    have HB2 := Lib.hid (HB1.out.trans (hb2.mono HB1.out.size))
    clear hb2 o0 o1 o2 o3 o4 o5
    have hs := row6c r2
    have hsz := r2.lt
    clear r2
    obtain ⟨o0, o1, o2, o3, o4, o5⟩ := hs
    go_wp2_with (first
      | (go_at_call 43; refine (KW.out _).mono ?_; rintro e w' ⟨rfl, hb⟩; have hsz := hb.size))
    go_ret
    refine ⟨ret_bs ?_, (HB2.out.trans (hb.mono HB2.out.size)).alloc (HB2.out.trans (hb.mono HB2.out.size)).size _⟩
    rw [show zeroT pl (nearM pl c) 5 2 p q = [108, 100, 32] ++ pairT pl 2 [115, 112] ++ [44] ++ ([40] ++ [257] ++ [41]) from rfl]
    simp only [← sy_app, HH.out, HW.out]
    rfl
  · go_enter Tryd.func21, Tryd.ntmps21
    go_wp2_with fail
    refine (KP2.out _).mono ?_
    rintro e w1 ⟨rfl, hb1⟩
    have r1 := (Row.new w 24 #[.int .i64 pl, .int .u8 c, .int .u8 d, .int .u16 m, .int .i64 le, .int .i64 sk]).below hb1 (by simp)
    have HB1 := Lib.hid (((Below.refl _ w).alloc (Nat.le_refl _) _).trans (hb1.mono (by simp)))
    obtain ⟨o0, o1, o2, o3, o4, o5⟩ := row6c r1
    have R1 := Lib.hid r1
    clear r1 hb1
    go_wp2_with fail
    refine (KPP.out _).mono ?_
    rintro e w2 ⟨rfl, hb2⟩
    have r2 := R1.out.below hb2 R1.out.lt
    have HB2 := Lib.hid (HB1.out.trans (hb2.mono HB1.out.size))
    clear hb2 o0 o1 o2 o3 o4 o5
    have hs := row6c r2
    have hsz := r2.lt
    clear r2
    obtain ⟨o0, o1, o2, o3, o4, o5⟩ := hs
    go_wp2_with (first
      | (go_at_call 43; refine (KW.out _).mono ?_; rintro e w' ⟨rfl, hb⟩; have hsz := hb.size))
    go_ret
    refine ⟨ret_bs ?_, (HB2.out.trans (hb.mono HB2.out.size)).alloc (HB2.out.trans (hb.mono HB2.out.size)).size _⟩
    rw [show zeroT pl (nearM pl c) 6 2 p q = [108, 100, 32] ++ ([40] ++ [257] ++ [41]) ++ [44, 97] from rfl]
    simp only [← sy_app, HH.out, HW.out]
    rfl
  · go_enter Tryd.func21, Tryd.ntmps21
    go_wp2_with fail
    refine (KP2.out _).mono ?_
    rintro e w1 ⟨rfl, hb1⟩
    have r1 := (Row.new w 24 #[.int .i64 pl, .int .u8 c, .int .u8 d, .int .u16 m, .int .i64 le, .int .i64 sk]).below hb1 (by simp)
    have HB1 := Lib.hid (((Below.refl _ w).alloc (Nat.le_refl _) _).trans (hb1.mono (by simp)))
    obtain ⟨o0, o1, o2, o3, o4, o5⟩ := row6c r1
    have R1 := Lib.hid r1
    clear r1 hb1
    go_wp2_with fail
    refine (KPP.out _).mono ?_
    rintro e w2 ⟨rfl, hb2⟩
    have r2 := R1.out.below hb2 R1.out.lt
    have HB2 := Lib.hid (HB1.out.trans (hb2.mono HB1.out.size))
    clear hb2 o0 o1 o2 o3 o4 o5
    have hs := row6c r2
    have hsz := r2.lt
    clear r2
    obtain ⟨o0, o1, o2, o3, o4, o5⟩ := hs
    go_wp2_with (first
      | (go_at_call 43; refine (KW.out _).mono ?_; rintro e w' ⟨rfl, hb⟩; have hsz := hb.size))
    go_ret
    refine ⟨ret_bs ?_, (HB2.out.trans (hb.mono HB2.out.size)).alloc (HB2.out.trans (hb.mono HB2.out.size)).size _⟩
    rw [show zeroT pl (nearM pl c) 7 2 p q = [108, 100, 32, 97, 44] ++ ([40] ++ [257] ++ [41]) from rfl]
    simp only [← sy_app, HH.out, HW.out]
    rfl
set_option maxHeartbeats 8000000 in
theorem rzero0a (pl c d m le sk y p q : Int) (hc : B8 c) (hd : B8 d) (h0 : 0 ≤ m) (h1 : m ≤ 65535) (hy : 0 ≤ y ∧ y ≤ 7) (hp : 0 ≤ p ∧ p ≤ 3) (hq : 0 ≤ q ∧ q ≤ 1) (hy4 : y < 4) (w : World) :
    Calls Tryd.prog 21 #[opV pl c d m le sk, .int .i64 y, .int .i64 0, .int .i64 p, .int .i64 q] w fun e w' => e = .returned (.string (sy pl d m (zeroT pl (nearM pl c) y 0 p q))) ∧ Below w.heap.size w w' := by
  have kp2 := fun W => rpairSp_any pl c d m le sk 2 (by omega) W
  have kpp := fun W => rpairSp_any pl c d m le sk p hp W
  have kt := fun W => rto_any pl c d m le sk h0 h1 W
  have zH := sy_size pl d m (pairT pl 2 [115, 112])
  have lH := pairT_le pl 2 [115, 112] (by simp)
  have zH : (sy pl d m (pairT pl 2 [115, 112])).size ≤ 100 := by omega
  clear lH
  generalize hRH : sy pl d m (pairT pl 2 [115, 112]) = RH at *
  have HH := Lib.hid hRH
  clear hRH
  have zP := sy_size pl d m (pairT pl p [115, 112])
  have lP := pairT_le pl p [115, 112] (by simp)
  have zP : (sy pl d m (pairT pl p [115, 112])).size ≤ 100 := by omega
  clear lP
  generalize hRP : sy pl d m (pairT pl p [115, 112]) = RP at *
  have HP := Lib.hid hRP
  clear hRP
  have zT := sy_size pl d m ([258])
  have lT := (show [258].length ≤ 8 by simp)
  have zT : (sy pl d m ([258])).size ≤ 100 := by omega
  clear lT
  generalize hRT : sy pl d m ([258]) = RT at *
  have HT := Lib.hid hRT
  clear hRT
  have KP2 := Lib.hid kp2
  have KPP := Lib.hid kpp
  clear kp2 kpp
  have KT := Lib.hid kt
  clear kt
  obtain rfl | rfl | rfl | rfl : y = 0 ∨ y = 1 ∨ y = 2 ∨ y = 3 := by omega
  · go_enter Tryd.func21, Tryd.ntmps21
    go_wp2_with fail
    refine (KP2.out _).mono ?_
    rintro e w1 ⟨rfl, hb1⟩
    have r1 := (Row.new w 24 #[.int .i64 pl, .int .u8 c, .int .u8 d, .int .u16 m, .int .i64 le, .int .i64 sk]).below hb1 (by simp)
    have HB1 := Lib.hid (((Below.refl _ w).alloc (Nat.le_refl _) _).trans (hb1.mono (by simp)))
    obtain ⟨o0, o1, o2, o3, o4, o5⟩ := row6c r1
    have R1 := Lib.hid r1
    clear r1 hb1
    go_wp2_with fail
    refine (KPP.out _).mono ?_
    rintro e w2 ⟨rfl, hb2⟩
    have r2 := R1.out.below hb2 R1.out.lt
    have HB2 := Lib.hid (HB1.out.trans (hb2.mono HB1.out.size))
    clear hb2 o0 o1 o2 o3 o4 o5
    have hs := row6c r2
    have hsz := r2.lt
    clear r2
    have b0 : ¬ 9223372036854775807 < 5 + RT.size := by omega
    have b1 : ¬ 9223372036854775807 < 3 + RT.size := by omega
    go_wp2_with fail
    go_region_held3 (fun w' => w'.cell? ⟨w.heap.size, 0, none⟩ = some (.int .i64 pl) ∧ w'.cell? ⟨w.heap.size, 1, none⟩ = some (.int .u8 c) ∧ w'.cell? ⟨w.heap.size, 2, none⟩ = some (.int .u8 d) ∧ w'.cell? ⟨w.heap.size, 3, none⟩ = some (.int .u16 m) ∧ w'.cell? ⟨w.heap.size, 4, none⟩ = some (.int .i64 le) ∧ w'.cell? ⟨w.heap.size, 5, none⟩ = some (.int .i64 sk)) (first | with_reducible assumption | exact hs | with_reducible exact keep6r hb (by with_reducible assumption) | with_reducible exact keep6r (Below.alloc (Below.refl _ _) (Nat.le_refl _) _) (by with_reducible assumption))
      (first
      | (go_at_call 44; refine (KT.out _).mono ?_; rintro e w3 ⟨rfl, hb⟩; first | have HB4 := Lib.hid (HB3.out.trans (hb.mono HB3.out.size)) | have HB3 := Lib.hid (HB2.out.trans ((Below.drew (Below.refl _ w2)).trans hb |>.mono HB2.out.size))))
    clear b0 b1
    go_wp2
    go_ret
    refine ⟨ret_bs ?_, HB4.out.alloc HB4.out.size _⟩
    rfl
  · go_enter Tryd.func21, Tryd.ntmps21
    go_wp2_with fail
    refine (KP2.out _).mono ?_
    rintro e w1 ⟨rfl, hb1⟩
    have r1 := (Row.new w 24 #[.int .i64 pl, .int .u8 c, .int .u8 d, .int .u16 m, .int .i64 le, .int .i64 sk]).below hb1 (by simp)
    have HB1 := Lib.hid (((Below.refl _ w).alloc (Nat.le_refl _) _).trans (hb1.mono (by simp)))
    obtain ⟨o0, o1, o2, o3, o4, o5⟩ := row6c r1
    have R1 := Lib.hid r1
    clear r1 hb1
    go_wp2_with fail
    refine (KPP.out _).mono ?_
    rintro e w2 ⟨rfl, hb2⟩
    have r2 := R1.out.below hb2 R1.out.lt
    have HB2 := Lib.hid (HB1.out.trans (hb2.mono HB1.out.size))
    clear hb2 o0 o1 o2 o3 o4 o5
    have hs := row6c r2
    have hsz := r2.lt
    clear r2
    have b0 : ¬ 9223372036854775807 < 5 + RT.size := by omega
    have b1 : ¬ 9223372036854775807 < 3 + RT.size := by omega
    go_wp2_with fail
    go_region_held3 (fun w' => w'.cell? ⟨w.heap.size, 0, none⟩ = some (.int .i64 pl) ∧ w'.cell? ⟨w.heap.size, 1, none⟩ = some (.int .u8 c) ∧ w'.cell? ⟨w.heap.size, 2, none⟩ = some (.int .u8 d) ∧ w'.cell? ⟨w.heap.size, 3, none⟩ = some (.int .u16 m) ∧ w'.cell? ⟨w.heap.size, 4, none⟩ = some (.int .i64 le) ∧ w'.cell? ⟨w.heap.size, 5, none⟩ = some (.int .i64 sk)) (first | with_reducible assumption | exact hs | with_reducible exact keep6r hb (by with_reducible assumption) | with_reducible exact keep6r (Below.alloc (Below.refl _ _) (Nat.le_refl _) _) (by with_reducible assumption))
      (first
      | (go_at_call 44; refine (KT.out _).mono ?_; rintro e w3 ⟨rfl, hb⟩; first | have HB4 := Lib.hid (HB3.out.trans (hb.mono HB3.out.size)) | have HB3 := Lib.hid (HB2.out.trans ((Below.drew (Below.refl _ w2)).trans hb |>.mono HB2.out.size))))
    clear b0 b1
    go_wp2
    go_ret
    refine ⟨ret_bs ?_, HB4.out.alloc HB4.out.size _⟩
    rfl
  · go_enter Tryd.func21, Tryd.ntmps21
    go_wp2_with fail
    refine (KP2.out _).mono ?_
    rintro e w1 ⟨rfl, hb1⟩
    have r1 := (Row.new w 24 #[.int .i64 pl, .int .u8 c, .int .u8 d, .int .u16 m, .int .i64 le, .int .i64 sk]).below hb1 (by simp)
    have HB1 := Lib.hid (((Below.refl _ w).alloc (Nat.le_refl _) _).trans (hb1.mono (by simp)))
    obtain ⟨o0, o1, o2, o3, o4, o5⟩ := row6c r1
    have R1 := Lib.hid r1
    clear r1 hb1
    go_wp2_with fail
    refine (KPP.out _).mono ?_
    rintro e w2 ⟨rfl, hb2⟩
    have r2 := R1.out.below hb2 R1.out.lt
    have HB2 := Lib.hid (HB1.out.trans (hb2.mono HB1.out.size))
    clear hb2 o0 o1 o2 o3 o4 o5
    have hs := row6c r2
    have hsz := r2.lt
    clear r2
    have b0 : ¬ 9223372036854775807 < 5 + RT.size := by omega
    have b1 : ¬ 9223372036854775807 < 3 + RT.size := by omega
    go_wp2_with fail
    go_region_held3 (fun w' => w'.cell? ⟨w.heap.size, 0, none⟩ = some (.int .i64 pl) ∧ w'.cell? ⟨w.heap.size, 1, none⟩ = some (.int .u8 c) ∧ w'.cell? ⟨w.heap.size, 2, none⟩ = some (.int .u8 d) ∧ w'.cell? ⟨w.heap.size, 3, none⟩ = some (.int .u16 m) ∧ w'.cell? ⟨w.heap.size, 4, none⟩ = some (.int .i64 le) ∧ w'.cell? ⟨w.heap.size, 5, none⟩ = some (.int .i64 sk)) (first | with_reducible assumption | exact hs | with_reducible exact keep6r hb (by with_reducible assumption) | with_reducible exact keep6r (Below.alloc (Below.refl _ _) (Nat.le_refl _) _) (by with_reducible assumption))
      (first
      | (go_at_call 44; refine (KT.out _).mono ?_; rintro e w3 ⟨rfl, hb⟩; first | have HB4 := Lib.hid (HB3.out.trans (hb.mono HB3.out.size)) | have HB3 := Lib.hid (HB2.out.trans ((Below.drew (Below.refl _ w2)).trans hb |>.mono HB2.out.size))))
    clear b0 b1
    go_wp2
    go_ret
    refine ⟨ret_bs ?_, HB4.out.alloc HB4.out.size _⟩
    rw [show zeroT pl (nearM pl c) 2 0 p q = [100, 106, 110, 122, 32] ++ [258] from rfl]
    simp only [← sy_app, HT.out]
    rfl
  · go_enter Tryd.func21, Tryd.ntmps21
    go_wp2_with fail
    refine (KP2.out _).mono ?_
    rintro e w1 ⟨rfl, hb1⟩
    have r1 := (Row.new w 24 #[.int .i64 pl, .int .u8 c, .int .u8 d, .int .u16 m, .int .i64 le, .int .i64 sk]).below hb1 (by simp)
    have HB1 := Lib.hid (((Below.refl _ w).alloc (Nat.le_refl _) _).trans (hb1.mono (by simp)))
    obtain ⟨o0, o1, o2, o3, o4, o5⟩ := row6c r1
    have R1 := Lib.hid r1
    clear r1 hb1
    go_wp2_with fail
    refine (KPP.out _).mono ?_
    rintro e w2 ⟨rfl, hb2⟩
    have r2 := R1.out.below hb2 R1.out.lt
    have HB2 := Lib.hid (HB1.out.trans (hb2.mono HB1.out.size))
    clear hb2 o0 o1 o2 o3 o4 o5
    have hs := row6c r2
    have hsz := r2.lt
    clear r2
    have b0 : ¬ 9223372036854775807 < 5 + RT.size := by omega
    have b1 : ¬ 9223372036854775807 < 3 + RT.size := by omega
    go_wp2_with fail
    go_region_held3 (fun w' => w'.cell? ⟨w.heap.size, 0, none⟩ = some (.int .i64 pl) ∧ w'.cell? ⟨w.heap.size, 1, none⟩ = some (.int .u8 c) ∧ w'.cell? ⟨w.heap.size, 2, none⟩ = some (.int .u8 d) ∧ w'.cell? ⟨w.heap.size, 3, none⟩ = some (.int .u16 m) ∧ w'.cell? ⟨w.heap.size, 4, none⟩ = some (.int .i64 le) ∧ w'.cell? ⟨w.heap.size, 5, none⟩ = some (.int .i64 sk)) (first | with_reducible assumption | exact hs | with_reducible exact keep6r hb (by with_reducible assumption) | with_reducible exact keep6r (Below.alloc (Below.refl _ _) (Nat.le_refl _) _) (by with_reducible assumption))
      (first
      | (go_at_call 44; refine (KT.out _).mono ?_; rintro e w3 ⟨rfl, hb⟩; first | have HB4 := Lib.hid (HB3.out.trans (hb.mono HB3.out.size)) | have HB3 := Lib.hid (HB2.out.trans ((Below.drew (Below.refl _ w2)).trans hb |>.mono HB2.out.size))))
    clear b0 b1
    go_wp2
    go_ret
    refine ⟨ret_bs ?_, HB4.out.alloc HB4.out.size _⟩
    rw [show zeroT pl (nearM pl c) 3 0 p q = [106, 114, 32] ++ [258] from rfl]
    simp only [← sy_app, HT.out]
    rfl
set_option maxHeartbeats 8000000 in
theorem rzero0b (pl c d m le sk y p q : Int) (hc : B8 c) (hd : B8 d) (h0 : 0 ≤ m) (h1 : m ≤ 65535) (hy : 0 ≤ y ∧ y ≤ 7) (hp : 0 ≤ p ∧ p ≤ 3) (hq : 0 ≤ q ∧ q ≤ 1) (hy4 : 4 ≤ y) (w : World) :
    Calls Tryd.prog 21 #[opV pl c d m le sk, .int .i64 y, .int .i64 0, .int .i64 p, .int .i64 q] w fun e w' => e = .returned (.string (sy pl d m (zeroT pl (nearM pl c) y 0 p q))) ∧ Below w.heap.size w w' := by
  have kp2 := fun W => rpairSp_any pl c d m le sk 2 (by omega) W
  have kpp := fun W => rpairSp_any pl c d m le sk p hp W
  have kt := fun W => rto_any pl c d m le sk h0 h1 W
  have zH := sy_size pl d m (pairT pl 2 [115, 112])
  have lH := pairT_le pl 2 [115, 112] (by simp)
  have zH : (sy pl d m (pairT pl 2 [115, 112])).size ≤ 100 := by omega
  clear lH
  generalize hRH : sy pl d m (pairT pl 2 [115, 112]) = RH at *
  have HH := Lib.hid hRH
  clear hRH
  have zP := sy_size pl d m (pairT pl p [115, 112])
  have lP := pairT_le pl p [115, 112] (by simp)
  have zP : (sy pl d m (pairT pl p [115, 112])).size ≤ 100 := by omega
  clear lP
  generalize hRP : sy pl d m (pairT pl p [115, 112]) = RP at *
  have HP := Lib.hid hRP
  clear hRP
  have zT := sy_size pl d m ([258])
  have lT := (show [258].length ≤ 8 by simp)
  have zT : (sy pl d m ([258])).size ≤ 100 := by omega
  clear lT
  generalize hRT : sy pl d m ([258]) = RT at *
  have HT := Lib.hid hRT
  clear hRT
  have KP2 := Lib.hid kp2
  have KPP := Lib.hid kpp
  clear kp2 kpp
  have KT := Lib.hid kt
  clear kt
  have kc := fun W => rconds_any (y - 4) (by omega) W
  have lC := pick_le condN (by decide) (y - 4)
  have zC : (sb (pick condN (y - 4))).size ≤ 8 := by rw [sb_size]; exact lC
  have hCC : sy pl d m (pick condN (y - 4)) = sb (pick condN (y - 4)) := (sy_sb pl d m _ (pick_lt _ (by decide) _)).symm
  clear lC
  generalize sb (pick condN (y - 4)) = RC at *
  have KC := Lib.hid kc
  have HC := Lib.hid hCC
  clear kc hCC
  have hw4 : IntKind.i64.wrap (y - 4) = y - 4 := by rw [IntKind.wrap_i64]; omega
  have y0 : 0 ≤ y - 4 := by omega
  have y1 : y - 4 < 8 := by omega
  go_enter Tryd.func21, Tryd.ntmps21
  go_wp2_with fail
  refine (KP2.out _).mono ?_
  rintro e w1 ⟨rfl, hb1⟩
  have r1 := (Row.new w 24 #[.int .i64 pl, .int .u8 c, .int .u8 d, .int .u16 m, .int .i64 le, .int .i64 sk]).below hb1 (by simp)
  have HB1 := Lib.hid (((Below.refl _ w).alloc (Nat.le_refl _) _).trans (hb1.mono (by simp)))
  obtain ⟨o0, o1, o2, o3, o4, o5⟩ := row6c r1
  have R1 := Lib.hid r1
  clear r1 hb1
  go_wp2_with fail
  refine (KPP.out _).mono ?_
  rintro e w2 ⟨rfl, hb2⟩
  have r2 := R1.out.below hb2 R1.out.lt
  have HB2 := Lib.hid (HB1.out.trans (hb2.mono HB1.out.size))
  clear hb2 o0 o1 o2 o3 o4 o5
  have hs := row6c r2
  have hsz := r2.lt
  clear r2
  have b0 : ¬ 9223372036854775807 < 5 + RT.size := by omega
  have b1 : ¬ 9223372036854775807 < 3 + RT.size := by omega
  go_wp2_with fail
  go_region_held3 (fun w' => w'.cell? ⟨w.heap.size, 0, none⟩ = some (.int .i64 pl) ∧ w'.cell? ⟨w.heap.size, 1, none⟩ = some (.int .u8 c) ∧ w'.cell? ⟨w.heap.size, 2, none⟩ = some (.int .u8 d) ∧ w'.cell? ⟨w.heap.size, 3, none⟩ = some (.int .u16 m) ∧ w'.cell? ⟨w.heap.size, 4, none⟩ = some (.int .i64 le) ∧ w'.cell? ⟨w.heap.size, 5, none⟩ = some (.int .i64 sk)) (first | with_reducible assumption | exact hs | with_reducible exact keep6r hb (by with_reducible assumption) | with_reducible exact keep6r (Below.alloc (Below.refl _ _) (Nat.le_refl _) _) (by with_reducible assumption))
    (first
    | (go_at_call 44; refine (KT.out _).mono ?_; rintro e w3 ⟨rfl, hb⟩; first | have HB4 := Lib.hid (HB3.out.trans (hb.mono HB3.out.size)) | have HB3 := Lib.hid (HB2.out.trans ((Below.drew (Below.refl _ w2)).trans hb |>.mono HB2.out.size))))
  clear b0 b1
  go_upto_region 8 with fail
  have HB5 := Lib.hid (HB4.out.alloc HB4.out.size (.cells #[.string ⟨#[110, 111, 112]⟩, .string ⟨#[101, 120, 32, 97, 102, 44, 97, 102, 39]⟩, .string (⟨#[100, 106, 110, 122, 32]⟩ ++ RT), .string (⟨#[106, 114, 32]⟩ ++ RT)] 9))
  have hs5 : (w3.alloc (.cells #[.string ⟨#[110, 111, 112]⟩, .string ⟨#[101, 120, 32, 97, 102, 44, 97, 102, 39]⟩, .string (⟨#[100, 106, 110, 122, 32]⟩ ++ RT), .string (⟨#[106, 114, 32]⟩ ++ RT)] 9)).cell? ⟨w.heap.size, 0, none⟩ = some (.int .i64 pl) ∧ (w3.alloc (.cells #[.string ⟨#[110, 111, 112]⟩, .string ⟨#[101, 120, 32, 97, 102, 44, 97, 102, 39]⟩, .string (⟨#[100, 106, 110, 122, 32]⟩ ++ RT), .string (⟨#[106, 114, 32]⟩ ++ RT)] 9)).cell? ⟨w.heap.size, 1, none⟩ = some (.int .u8 c) ∧ (w3.alloc (.cells #[.string ⟨#[110, 111, 112]⟩, .string ⟨#[101, 120, 32, 97, 102, 44, 97, 102, 39]⟩, .string (⟨#[100, 106, 110, 122, 32]⟩ ++ RT), .string (⟨#[106, 114, 32]⟩ ++ RT)] 9)).cell? ⟨w.heap.size, 2, none⟩ = some (.int .u8 d) ∧ (w3.alloc (.cells #[.string ⟨#[110, 111, 112]⟩, .string ⟨#[101, 120, 32, 97, 102, 44, 97, 102, 39]⟩, .string (⟨#[100, 106, 110, 122, 32]⟩ ++ RT), .string (⟨#[106, 114, 32]⟩ ++ RT)] 9)).cell? ⟨w.heap.size, 3, none⟩ = some (.int .u16 m) ∧ (w3.alloc (.cells #[.string ⟨#[110, 111, 112]⟩, .string ⟨#[101, 120, 32, 97, 102, 44, 97, 102, 39]⟩, .string (⟨#[100, 106, 110, 122, 32]⟩ ++ RT), .string (⟨#[106, 114, 32]⟩ ++ RT)] 9)).cell? ⟨w.heap.size, 4, none⟩ = some (.int .i64 le) ∧ (w3.alloc (.cells #[.string ⟨#[110, 111, 112]⟩, .string ⟨#[101, 120, 32, 97, 102, 44, 97, 102, 39]⟩, .string (⟨#[100, 106, 110, 122, 32]⟩ ++ RT), .string (⟨#[106, 114, 32]⟩ ++ RT)] 9)).cell? ⟨w.heap.size, 5, none⟩ = some (.int .i64 sk) := by with_reducible assumption
  generalize w3.alloc (.cells #[.string ⟨#[110, 111, 112]⟩, .string ⟨#[101, 120, 32, 97, 102, 44, 97, 102, 39]⟩, .string (⟨#[100, 106, 110, 122, 32]⟩ ++ RT), .string (⟨#[106, 114, 32]⟩ ++ RT)] 9) = W5 at *
  have b0 : ¬ 9223372036854775807 < 3 + RC.size := by omega
  have b1 : ¬ 9223372036854775807 < 3 + RC.size + 1 := by omega
  have b2 : ¬ 9223372036854775807 < 3 + RC.size + 1 + RT.size := by omega
  go_region_with (first
    | (go_at_call 45; refine (KC.out _).mono ?_; rintro e w6 ⟨rfl, hcell, hb⟩; (try simp only [World.size_drew] at hcell); have hb5 := (Below.drew (Below.refl _ W5)).trans hb; have hs6 := keep6r hb5 hs5; have HB6 := Lib.hid (HB5.out.trans (hb5.mono HB5.out.size)))
    | (go_at_call 44; refine (KT.out _).mono ?_; rintro e w7 ⟨rfl, hb⟩; have HB7 := Lib.hid (HB6.out.trans (hb.mono HB6.out.size)); have hcl := cell_kept hcell hb; have hs7 := keep6r hb hs6))
  all_goals go_wp2
  all_goals
    go_ret
    refine ⟨ret_bs ?_, HB7.out⟩
    rw [show zeroT pl (nearM pl c) y 0 p q = [106, 114, 32] ++ pick condN (y - 4) ++ [44] ++ [258] by unfold zeroT; rw [if_pos rfl, if_neg (by omega)]]
    simp only [← sy_app, HC.out, HT.out]
    rfl
theorem rzero_any (pl c d m le sk y z p q : Int) (hc : B8 c) (hd : B8 d) (h0 : 0 ≤ m) (h1 : m ≤ 65535) (hy : 0 ≤ y ∧ y ≤ 7) (hz : 0 ≤ z ∧ z ≤ 7) (hp : 0 ≤ p ∧ p ≤ 3) (hq : 0 ≤ q ∧ q ≤ 1) (w : World) :
    Calls Tryd.prog 21 #[opV pl c d m le sk, .int .i64 y, .int .i64 z, .int .i64 p, .int .i64 q] w fun e w' => e = .returned (.string (sy pl d m (zeroT pl (nearM pl c) y z p q))) ∧ Below w.heap.size w w' := by
  rcases eight z hz with rfl | rfl | rfl | rfl | rfl | rfl | rfl | rfl
  · by_cases h : y < 4
    · exact rzero0a pl c d m le sk y p q hc hd h0 h1 hy hp hq h w
    · exact rzero0b pl c d m le sk y p q hc hd h0 h1 hy hp hq (by omega) w
  · obtain h | h : q = 0 ∨ q = 1 := by omega
    · exact rzero1a pl c d m le sk y p q hc hd h0 h1 hy hp hq h w
    · exact rzero1b pl c d m le sk y p q hc hd h0 h1 hy hp hq h w
  · exact rzero2 pl c d m le sk y p q hc hd h0 h1 hy hp hq w
  · exact rzero3 pl c d m le sk y p q hc hd h0 h1 hy hp hq w
  · exact rzero4 pl c d m le sk y p q hc hd h0 h1 hy hp hq w
  · exact rzero5 pl c d m le sk y p q hc hd h0 h1 hy hp hq w
  · exact rzero6 pl c d m le sk y p q hc hd h0 h1 hy hp hq w
  · exact rzero7 pl c d m le sk y p q hc hd h0 h1 hy hp hq w
end Go.Proofs.YtgdpafldhmchpaaDoor
