/- Layer 9 (text): the document's own: contracts of bits and ed. -/
import Derived.Test.YtgdpafldhmchpaaDoorTextRefS
namespace Go.Proofs.YtgdpafldhmchpaaDoor
open Go.RowKit
set_option linter.unusedVariables false
set_option linter.unusedSimpArgs false

theorem dec3_dig : ∀ k : Fin 8, dec3 (k.val : Int) = (pick digN (k.val : Int)).map UInt8.ofNat := by decide +kernel
theorem rdig_digs (y : Int) (hy : 0 ≤ y ∧ y ≤ 7) : (⟨(rdig 10 1 8 y []).toArray⟩ : ByteArray) = sb (pick digN y) := by
  have := dec3_dig ⟨y.toNat, by omega⟩
  rw [show (((⟨y.toNat, by omega⟩ : Fin 8).val : Nat) : Int) = y by show (y.toNat : Int) = y; omega] at this
  rw [rdig_dec y (by omega) (by omega), this]
  rfl
set_option maxHeartbeats 8000000 in
theorem rbitsA0 (c d m le sk y z : Int) (hd : B8 d) (hy : 0 ≤ y ∧ y ≤ 7) (hz : 0 ≤ z ∧ z ≤ 7)  (w : World) :
    Calls Tryd.prog 19 #[opV 1 c d m le sk, .int .i64 0, .int .i64 y, .int .i64 z] w fun e w' => e = .returned (.string (sy 1 d m (bitsT 1 0 y z))) ∧ Below w.heap.size w w' := by
  have HE : bitsT 1 0 y z = pick shiftN y ++ [32] ++ (pick regN z) := by
    unfold bitsT
    simp only [if_true, if_false, ne_eq, not_true_eq_false, not_false_eq_true, false_and, and_false, true_and, and_true, Int.reduceEq]
    all_goals rfl
  have HE := Lib.hid HE
  have kg := fun W => rreg0_any z hz W
  have zG := pick_size regN (by decide) z
  have hGG := pick_sy 1 d m regN (by decide) z
  generalize sb (pick regN z) = RG at *
  have KG := Lib.hid kg
  have HG := Lib.hid hGG
  have ki := fun W => rIndex_any 1 d hd W
  have zI0 := sy_size 1 d m [259]
  rw [index_sy 1 d m] at ki
  generalize hRI : sy 1 d m [259] = RI at *
  have HI := Lib.hid hRI
  have zI : RI.size ≤ 8 := by simpa using zI0
  have KI := Lib.hid ki
  clear kg hGG ki hRI zI0
  have kc := fun W => rshifts_any y hy W
  have zC := pick_size shiftN (by decide) y
  have hCC := pick_sy 1 d m shiftN (by decide) y
  generalize sb (pick shiftN y) = RC at *
  have KC := Lib.hid kc
  have HC := Lib.hid hCC
  clear kc hCC
  have y0 : 0 ≤ y := hy.1
  have y1 : y < 8 := by omega
  go_enter Tryd.func19, Tryd.ntmps19
  go_wp2_with fail
  refine (KG.out _).mono ?_
  rintro e w1 ⟨rfl, hb1⟩
  have r1 := (Row.new w 24 #[.int .i64 1, .int .u8 c, .int .u8 d, .int .u16 m, .int .i64 le, .int .i64 sk]).below hb1 (by simp)
  have HB1 := Lib.hid (((Below.refl _ w).alloc (Nat.le_refl _) _).trans (hb1.mono (by simp)))
  obtain ⟨o0, o1, o2, o3, o4, o5⟩ := row6c r1
  have hsz := r1.lt
  have R1 := Lib.hid r1
  clear hb1 r1
  go_wp2_with (first
    | (go_at_call 40; refine (KC.out _).mono ?_; rintro e w6 ⟨rfl, hcell, hb⟩))
  go_ret
  refine ⟨ret_bs ?_, HB1.out.trans (hb.mono HB1.out.size)⟩
  rw [HE.out]
  simp only [← sy_app, HC.out, HG.out]
  all_goals rfl
set_option maxHeartbeats 8000000 in
theorem rbitsA1 (c d m le sk y z : Int) (hd : B8 d) (hy : 0 ≤ y ∧ y ≤ 7) (hz : 0 ≤ z ∧ z ≤ 7)  (w : World) :
    Calls Tryd.prog 19 #[opV 1 c d m le sk, .int .i64 1, .int .i64 y, .int .i64 z] w fun e w' => e = .returned (.string (sy 1 d m (bitsT 1 1 y z))) ∧ Below w.heap.size w w' := by
  have HE : bitsT 1 1 y z = [98, 105, 116, 32] ++ pick digN y ++ [44] ++ (pick regN z) := by
    unfold bitsT
    simp only [if_true, if_false, ne_eq, not_true_eq_false, not_false_eq_true, false_and, and_false, true_and, and_true, Int.reduceEq]
    all_goals rfl
  have HE := Lib.hid HE
  have kg := fun W => rreg0_any z hz W
  have zG := pick_size regN (by decide) z
  have hGG := pick_sy 1 d m regN (by decide) z
  generalize sb (pick regN z) = RG at *
  have KG := Lib.hid kg
  have HG := Lib.hid hGG
  have ki := fun W => rIndex_any 1 d hd W
  have zI0 := sy_size 1 d m [259]
  rw [index_sy 1 d m] at ki
  generalize hRI : sy 1 d m [259] = RI at *
  have HI := Lib.hid hRI
  have zI : RI.size ≤ 8 := by simpa using zI0
  have KI := Lib.hid ki
  clear kg hGG ki hRI zI0
  have kc := fun W => rdigits10_any y 1 hy.1 (by omega) (by omega) W
  rw [rdig_digs y hy] at kc
  have zC := pick_size digN (by decide) y
  have hCC := pick_sy 1 d m digN (by decide) y
  generalize sb (pick digN y) = RC at *
  have KC := Lib.hid kc
  have HC := Lib.hid hCC
  clear kc hCC
  go_enter Tryd.func19, Tryd.ntmps19
  go_wp2_with fail
  refine (KG.out _).mono ?_
  rintro e w1 ⟨rfl, hb1⟩
  have r1 := (Row.new w 24 #[.int .i64 1, .int .u8 c, .int .u8 d, .int .u16 m, .int .i64 le, .int .i64 sk]).below hb1 (by simp)
  have HB1 := Lib.hid (((Below.refl _ w).alloc (Nat.le_refl _) _).trans (hb1.mono (by simp)))
  obtain ⟨o0, o1, o2, o3, o4, o5⟩ := row6c r1
  have hsz := r1.lt
  have R1 := Lib.hid r1
  clear hb1 r1
  have hcx : (w1.alloc (.cells #[.string ⟨#[]⟩, .string ⟨#[98, 105, 116, 32]⟩, .string ⟨#[114, 101, 115, 32]⟩, .string ⟨#[115, 101, 116, 32]⟩] 9)).cell? ⟨w1.heap.size, 1, none⟩ = some (.string ⟨#[98, 105, 116, 32]⟩) := (Row.new w1 _ _).cell 1
  have HCX := Lib.hid hcx
  clear hcx
  have b0 : ¬ 9223372036854775807 < 4 + RC.size := by omega
  have b1 : ¬ 9223372036854775807 < 4 + RC.size + 1 := by omega
  have b2 : ¬ 9223372036854775807 < 4 + RC.size + 1 + RG.size := by omega
  go_wp2_with fail
  go_region_with (first
    | (go_at_call 41; refine (KC.out _).mono ?_; rintro e w6 ⟨rfl, hb⟩; (first | have hcl := cell_kept HCX.out ((Below.drew (Below.refl _ _)).trans hb) | have hcl := cell_kept HCX.out hb | skip); first | have HB6 := Lib.hid (HB1.out.drew.trans (hb.mono HB1.out.drew.size)) | have HB6 := Lib.hid ((HB1.out.alloc HB1.out.size _).drew.trans (hb.mono (HB1.out.alloc HB1.out.size _).drew.size))))
  all_goals go_wp2
  all_goals
    go_ret
    refine ⟨ret_bs ?_, by first | exact HB6.out | exact HB6.out.alloc HB6.out.size _⟩
    rw [HE.out]
    simp only [← sy_app, HC.out, HG.out]
    all_goals rfl
set_option maxHeartbeats 8000000 in
theorem rbitsA2 (c d m le sk y z : Int) (hd : B8 d) (hy : 0 ≤ y ∧ y ≤ 7) (hz : 0 ≤ z ∧ z ≤ 7)  (w : World) :
    Calls Tryd.prog 19 #[opV 1 c d m le sk, .int .i64 2, .int .i64 y, .int .i64 z] w fun e w' => e = .returned (.string (sy 1 d m (bitsT 1 2 y z))) ∧ Below w.heap.size w w' := by
  have HE : bitsT 1 2 y z = [114, 101, 115, 32] ++ pick digN y ++ [44] ++ (pick regN z) := by
    unfold bitsT
    simp only [if_true, if_false, ne_eq, not_true_eq_false, not_false_eq_true, false_and, and_false, true_and, and_true, Int.reduceEq]
    all_goals rfl
  have HE := Lib.hid HE
  have kg := fun W => rreg0_any z hz W
  have zG := pick_size regN (by decide) z
  have hGG := pick_sy 1 d m regN (by decide) z
  generalize sb (pick regN z) = RG at *
  have KG := Lib.hid kg
  have HG := Lib.hid hGG
  have ki := fun W => rIndex_any 1 d hd W
  have zI0 := sy_size 1 d m [259]
  rw [index_sy 1 d m] at ki
  generalize hRI : sy 1 d m [259] = RI at *
  have HI := Lib.hid hRI
  have zI : RI.size ≤ 8 := by simpa using zI0
  have KI := Lib.hid ki
  clear kg hGG ki hRI zI0
  have kc := fun W => rdigits10_any y 1 hy.1 (by omega) (by omega) W
  rw [rdig_digs y hy] at kc
  have zC := pick_size digN (by decide) y
  have hCC := pick_sy 1 d m digN (by decide) y
  generalize sb (pick digN y) = RC at *
  have KC := Lib.hid kc
  have HC := Lib.hid hCC
  clear kc hCC
  go_enter Tryd.func19, Tryd.ntmps19
  go_wp2_with fail
  refine (KG.out _).mono ?_
  rintro e w1 ⟨rfl, hb1⟩
  have r1 := (Row.new w 24 #[.int .i64 1, .int .u8 c, .int .u8 d, .int .u16 m, .int .i64 le, .int .i64 sk]).below hb1 (by simp)
  have HB1 := Lib.hid (((Below.refl _ w).alloc (Nat.le_refl _) _).trans (hb1.mono (by simp)))
  obtain ⟨o0, o1, o2, o3, o4, o5⟩ := row6c r1
  have hsz := r1.lt
  have R1 := Lib.hid r1
  clear hb1 r1
  have hcx : (w1.alloc (.cells #[.string ⟨#[]⟩, .string ⟨#[98, 105, 116, 32]⟩, .string ⟨#[114, 101, 115, 32]⟩, .string ⟨#[115, 101, 116, 32]⟩] 9)).cell? ⟨w1.heap.size, 2, none⟩ = some (.string ⟨#[114, 101, 115, 32]⟩) := (Row.new w1 _ _).cell 2
  have HCX := Lib.hid hcx
  clear hcx
  have b0 : ¬ 9223372036854775807 < 4 + RC.size := by omega
  have b1 : ¬ 9223372036854775807 < 4 + RC.size + 1 := by omega
  have b2 : ¬ 9223372036854775807 < 4 + RC.size + 1 + RG.size := by omega
  go_wp2_with fail
  go_region_with (first
    | (go_at_call 41; refine (KC.out _).mono ?_; rintro e w6 ⟨rfl, hb⟩; (first | have hcl := cell_kept HCX.out ((Below.drew (Below.refl _ _)).trans hb) | have hcl := cell_kept HCX.out hb | skip); first | have HB6 := Lib.hid (HB1.out.drew.trans (hb.mono HB1.out.drew.size)) | have HB6 := Lib.hid ((HB1.out.alloc HB1.out.size _).drew.trans (hb.mono (HB1.out.alloc HB1.out.size _).drew.size))))
  all_goals go_wp2
  all_goals
    go_ret
    refine ⟨ret_bs ?_, by first | exact HB6.out | exact HB6.out.alloc HB6.out.size _⟩
    rw [HE.out]
    simp only [← sy_app, HC.out, HG.out]
    all_goals rfl
set_option maxHeartbeats 8000000 in
theorem rbitsA3 (c d m le sk y z : Int) (hd : B8 d) (hy : 0 ≤ y ∧ y ≤ 7) (hz : 0 ≤ z ∧ z ≤ 7)  (w : World) :
    Calls Tryd.prog 19 #[opV 1 c d m le sk, .int .i64 3, .int .i64 y, .int .i64 z] w fun e w' => e = .returned (.string (sy 1 d m (bitsT 1 3 y z))) ∧ Below w.heap.size w w' := by
  have HE : bitsT 1 3 y z = [115, 101, 116, 32] ++ pick digN y ++ [44] ++ (pick regN z) := by
    unfold bitsT
    simp only [if_true, if_false, ne_eq, not_true_eq_false, not_false_eq_true, false_and, and_false, true_and, and_true, Int.reduceEq]
    all_goals rfl
  have HE := Lib.hid HE
  have kg := fun W => rreg0_any z hz W
  have zG := pick_size regN (by decide) z
  have hGG := pick_sy 1 d m regN (by decide) z
  generalize sb (pick regN z) = RG at *
  have KG := Lib.hid kg
  have HG := Lib.hid hGG
  have ki := fun W => rIndex_any 1 d hd W
  have zI0 := sy_size 1 d m [259]
  rw [index_sy 1 d m] at ki
  generalize hRI : sy 1 d m [259] = RI at *
  have HI := Lib.hid hRI
  have zI : RI.size ≤ 8 := by simpa using zI0
  have KI := Lib.hid ki
  clear kg hGG ki hRI zI0
  have kc := fun W => rdigits10_any y 1 hy.1 (by omega) (by omega) W
  rw [rdig_digs y hy] at kc
  have zC := pick_size digN (by decide) y
  have hCC := pick_sy 1 d m digN (by decide) y
  generalize sb (pick digN y) = RC at *
  have KC := Lib.hid kc
  have HC := Lib.hid hCC
  clear kc hCC
  go_enter Tryd.func19, Tryd.ntmps19
  go_wp2_with fail
  refine (KG.out _).mono ?_
  rintro e w1 ⟨rfl, hb1⟩
  have r1 := (Row.new w 24 #[.int .i64 1, .int .u8 c, .int .u8 d, .int .u16 m, .int .i64 le, .int .i64 sk]).below hb1 (by simp)
  have HB1 := Lib.hid (((Below.refl _ w).alloc (Nat.le_refl _) _).trans (hb1.mono (by simp)))
  obtain ⟨o0, o1, o2, o3, o4, o5⟩ := row6c r1
  have hsz := r1.lt
  have R1 := Lib.hid r1
  clear hb1 r1
  have hcx : (w1.alloc (.cells #[.string ⟨#[]⟩, .string ⟨#[98, 105, 116, 32]⟩, .string ⟨#[114, 101, 115, 32]⟩, .string ⟨#[115, 101, 116, 32]⟩] 9)).cell? ⟨w1.heap.size, 3, none⟩ = some (.string ⟨#[115, 101, 116, 32]⟩) := (Row.new w1 _ _).cell 3
  have HCX := Lib.hid hcx
  clear hcx
  have b0 : ¬ 9223372036854775807 < 4 + RC.size := by omega
  have b1 : ¬ 9223372036854775807 < 4 + RC.size + 1 := by omega
  have b2 : ¬ 9223372036854775807 < 4 + RC.size + 1 + RG.size := by omega
  go_wp2_with fail
  go_region_with (first
    | (go_at_call 41; refine (KC.out _).mono ?_; rintro e w6 ⟨rfl, hb⟩; (first | have hcl := cell_kept HCX.out ((Below.drew (Below.refl _ _)).trans hb) | have hcl := cell_kept HCX.out hb | skip); first | have HB6 := Lib.hid (HB1.out.drew.trans (hb.mono HB1.out.drew.size)) | have HB6 := Lib.hid ((HB1.out.alloc HB1.out.size _).drew.trans (hb.mono (HB1.out.alloc HB1.out.size _).drew.size))))
  all_goals go_wp2
  all_goals
    go_ret
    refine ⟨ret_bs ?_, by first | exact HB6.out | exact HB6.out.alloc HB6.out.size _⟩
    rw [HE.out]
    simp only [← sy_app, HC.out, HG.out]
    all_goals rfl
set_option maxHeartbeats 8000000 in
theorem rbitsB1 (pl c d m le sk y z : Int) (hd : B8 d) (hy : 0 ≤ y ∧ y ≤ 7) (hz : 0 ≤ z ∧ z ≤ 7) (hpl : pl ≠ 1) (w : World) :
    Calls Tryd.prog 19 #[opV pl c d m le sk, .int .i64 1, .int .i64 y, .int .i64 z] w fun e w' => e = .returned (.string (sy pl d m (bitsT pl 1 y z))) ∧ Below w.heap.size w w' := by
  have HE : bitsT pl 1 y z = [98, 105, 116, 32] ++ pick digN y ++ [44] ++ ([259]) := by
    unfold bitsT
    simp only [hpl, if_true, if_false, ne_eq, not_true_eq_false, not_false_eq_true, false_and, and_false, true_and, and_true, Int.reduceEq]
    all_goals rfl
  have HE := Lib.hid HE
  have kg := fun W => rreg0_any z hz W
  have zG := pick_size regN (by decide) z
  have hGG := pick_sy pl d m regN (by decide) z
  generalize sb (pick regN z) = RG at *
  have KG := Lib.hid kg
  have HG := Lib.hid hGG
  have ki := fun W => rIndex_any pl d hd W
  have zI0 := sy_size pl d m [259]
  rw [index_sy pl d m] at ki
  generalize hRI : sy pl d m [259] = RI at *
  have HI := Lib.hid hRI
  have zI : RI.size ≤ 8 := by simpa using zI0
  have KI := Lib.hid ki
  clear kg hGG ki hRI zI0
  have hpb : (pl == 1) = false := by simpa using hpl
  clear hpl
  have kc := fun W => rdigits10_any y 1 hy.1 (by omega) (by omega) W
  rw [rdig_digs y hy] at kc
  have zC := pick_size digN (by decide) y
  have hCC := pick_sy pl d m digN (by decide) y
  generalize sb (pick digN y) = RC at *
  have KC := Lib.hid kc
  have HC := Lib.hid hCC
  clear kc hCC
  go_enter Tryd.func19, Tryd.ntmps19
  go_wp2_with fail
  refine (KG.out _).mono ?_
  rintro e w1 ⟨rfl, hb1⟩
  have r1 := (Row.new w 24 #[.int .i64 pl, .int .u8 c, .int .u8 d, .int .u16 m, .int .i64 le, .int .i64 sk]).below hb1 (by simp)
  have HB1 := Lib.hid (((Below.refl _ w).alloc (Nat.le_refl _) _).trans (hb1.mono (by simp)))
  obtain ⟨o0, o1, o2, o3, o4, o5⟩ := row6c r1
  have hsz := r1.lt
  have R1 := Lib.hid r1
  clear hb1 r1
  go_wp2_with fail
  refine (KI.out _).mono ?_
  rintro e w2 ⟨rfl, hb2⟩
  have r2 := R1.out.below hb2 hsz
  have HB2 := Lib.hid (HB1.out.trans (hb2.mono HB1.out.size))
  clear o0 o1 o2 o3 o4 o5
  obtain ⟨o0, o1, o2, o3, o4, o5⟩ := row6c r2
  have hsz2 := r2.lt
  clear hb2 r2
  have hcx : (w2.alloc (.cells #[.string ⟨#[]⟩, .string ⟨#[98, 105, 116, 32]⟩, .string ⟨#[114, 101, 115, 32]⟩, .string ⟨#[115, 101, 116, 32]⟩] 9)).cell? ⟨w2.heap.size, 1, none⟩ = some (.string ⟨#[98, 105, 116, 32]⟩) := (Row.new w2 _ _).cell 1
  have HCX := Lib.hid hcx
  clear hcx
  have b0 : ¬ 9223372036854775807 < 4 + RC.size := by omega
  have b1 : ¬ 9223372036854775807 < 4 + RC.size + 1 := by omega
  have b2 : ¬ 9223372036854775807 < 4 + RC.size + 1 + RI.size := by omega
  go_wp2_with fail
  go_region_with (first
    | (go_at_call 41; refine (KC.out _).mono ?_; rintro e w6 ⟨rfl, hb⟩; (first | have hcl := cell_kept HCX.out ((Below.drew (Below.refl _ _)).trans hb) | have hcl := cell_kept HCX.out hb | skip); first | have HB6 := Lib.hid (HB2.out.drew.trans (hb.mono HB2.out.drew.size)) | have HB6 := Lib.hid ((HB2.out.alloc HB2.out.size _).drew.trans (hb.mono (HB2.out.alloc HB2.out.size _).drew.size))))
  all_goals go_wp2
  all_goals
    go_ret
    refine ⟨ret_bs ?_, by first | exact HB6.out | exact HB6.out.alloc HB6.out.size _⟩
    rw [HE.out]
    simp only [← sy_app, HC.out, HI.out]
    all_goals rfl
set_option maxHeartbeats 8000000 in
theorem rbits60 (pl c d m le sk y : Int) (hd : B8 d) (hy : 0 ≤ y ∧ y ≤ 7)  (hpl : pl ≠ 1) (w : World) :
    Calls Tryd.prog 19 #[opV pl c d m le sk, .int .i64 0, .int .i64 y, .int .i64 6] w fun e w' => e = .returned (.string (sy pl d m (bitsT pl 0 y 6))) ∧ Below w.heap.size w w' := by
  have HE : bitsT pl 0 y 6 = pick shiftN y ++ [32] ++ ([259]) := by
    unfold bitsT
    simp only [hpl, if_true, if_false, ne_eq, not_true_eq_false, not_false_eq_true, false_and, and_false, true_and, and_true, Int.reduceEq]
    all_goals rfl
  have HE := Lib.hid HE
  have kg := fun W => rreg0_any 6 (by omega) W
  have zG := pick_size regN (by decide) 6
  have hGG := pick_sy pl d m regN (by decide) 6
  generalize sb (pick regN 6) = RG at *
  have KG := Lib.hid kg
  have HG := Lib.hid hGG
  have ki := fun W => rIndex_any pl d hd W
  have zI0 := sy_size pl d m [259]
  rw [index_sy pl d m] at ki
  generalize hRI : sy pl d m [259] = RI at *
  have HI := Lib.hid hRI
  have zI : RI.size ≤ 8 := by simpa using zI0
  have KI := Lib.hid ki
  clear kg hGG ki hRI zI0
  have hpb : (pl == 1) = false := by simpa using hpl
  clear hpl
  have kc := fun W => rshifts_any y hy W
  have zC := pick_size shiftN (by decide) y
  have hCC := pick_sy pl d m shiftN (by decide) y
  generalize sb (pick shiftN y) = RC at *
  have KC := Lib.hid kc
  have HC := Lib.hid hCC
  clear kc hCC
  have y0 : 0 ≤ y := hy.1
  have y1 : y < 8 := by omega
  go_enter Tryd.func19, Tryd.ntmps19
  go_wp2_with fail
  refine (KG.out _).mono ?_
  rintro e w1 ⟨rfl, hb1⟩
  have r1 := (Row.new w 24 #[.int .i64 pl, .int .u8 c, .int .u8 d, .int .u16 m, .int .i64 le, .int .i64 sk]).below hb1 (by simp)
  have HB1 := Lib.hid (((Below.refl _ w).alloc (Nat.le_refl _) _).trans (hb1.mono (by simp)))
  obtain ⟨o0, o1, o2, o3, o4, o5⟩ := row6c r1
  have hsz := r1.lt
  have R1 := Lib.hid r1
  clear hb1 r1
  go_wp2_with fail
  refine (KI.out _).mono ?_
  rintro e w2 ⟨rfl, hb2⟩
  have r2 := R1.out.below hb2 hsz
  have HB2 := Lib.hid (HB1.out.trans (hb2.mono HB1.out.size))
  clear o0 o1 o2 o3 o4 o5
  obtain ⟨o0, o1, o2, o3, o4, o5⟩ := row6c r2
  have hsz2 := r2.lt
  clear hb2 r2
  go_wp2_with (first
    | (go_at_call 40; refine (KC.out _).mono ?_; rintro e w6 ⟨rfl, hcell, hb⟩))
  go_ret
  refine ⟨ret_bs ?_, HB2.out.trans (hb.mono HB2.out.size)⟩
  rw [HE.out]
  simp only [← sy_app, HC.out, HI.out]
  all_goals rfl
set_option maxHeartbeats 8000000 in
theorem rbitsC0 (pl c d m le sk y z : Int) (hd : B8 d) (hy : 0 ≤ y ∧ y ≤ 7) (hz : 0 ≤ z ∧ z ≤ 7) (hpl : pl ≠ 1) (hzz : z ≠ 6) (w : World) :
    Calls Tryd.prog 19 #[opV pl c d m le sk, .int .i64 0, .int .i64 y, .int .i64 z] w fun e w' => e = .returned (.string (sy pl d m (bitsT pl 0 y z))) ∧ Below w.heap.size w w' := by
  have HE : bitsT pl 0 y z = pick shiftN y ++ [32] ++ ([259] ++ [44] ++ pick regN z) := by
    unfold bitsT
    simp only [hpl, hzz, if_true, if_false, ne_eq, not_true_eq_false, not_false_eq_true, false_and, and_false, true_and, and_true, Int.reduceEq]
    all_goals rfl
  have HE := Lib.hid HE
  have kg := fun W => rreg0_any z hz W
  have zG := pick_size regN (by decide) z
  have hGG := pick_sy pl d m regN (by decide) z
  generalize sb (pick regN z) = RG at *
  have KG := Lib.hid kg
  have HG := Lib.hid hGG
  have ki := fun W => rIndex_any pl d hd W
  have zI0 := sy_size pl d m [259]
  rw [index_sy pl d m] at ki
  generalize hRI : sy pl d m [259] = RI at *
  have HI := Lib.hid hRI
  have zI : RI.size ≤ 8 := by simpa using zI0
  have KI := Lib.hid ki
  clear kg hGG ki hRI zI0
  have hpb : (pl == 1) = false := by simpa using hpl
  clear hpl
  have hzb : (z == 6) = false := by simpa using hzz
  clear hzz
  have kc := fun W => rshifts_any y hy W
  have zC := pick_size shiftN (by decide) y
  have hCC := pick_sy pl d m shiftN (by decide) y
  generalize sb (pick shiftN y) = RC at *
  have KC := Lib.hid kc
  have HC := Lib.hid hCC
  clear kc hCC
  have y0 : 0 ≤ y := hy.1
  have y1 : y < 8 := by omega
  go_enter Tryd.func19, Tryd.ntmps19
  go_wp2_with fail
  refine (KG.out _).mono ?_
  rintro e w1 ⟨rfl, hb1⟩
  have r1 := (Row.new w 24 #[.int .i64 pl, .int .u8 c, .int .u8 d, .int .u16 m, .int .i64 le, .int .i64 sk]).below hb1 (by simp)
  have HB1 := Lib.hid (((Below.refl _ w).alloc (Nat.le_refl _) _).trans (hb1.mono (by simp)))
  obtain ⟨o0, o1, o2, o3, o4, o5⟩ := row6c r1
  have hsz := r1.lt
  have R1 := Lib.hid r1
  clear hb1 r1
  go_wp2_with fail
  refine (KI.out _).mono ?_
  rintro e w2 ⟨rfl, hb2⟩
  have r2 := R1.out.below hb2 hsz
  have HB2 := Lib.hid (HB1.out.trans (hb2.mono HB1.out.size))
  clear o0 o1 o2 o3 o4 o5
  obtain ⟨o0, o1, o2, o3, o4, o5⟩ := row6c r2
  have hsz2 := r2.lt
  clear hb2 r2
  go_wp2_with fail
  refine (KG.out _).mono ?_
  rintro e w3 ⟨rfl, hb3⟩
  have HB3 := Lib.hid (HB2.out.trans (hb3.mono HB2.out.size))
  have hsz3 : w.heap.size < w3.heap.size := Nat.lt_of_lt_of_le hsz2 hb3.size
  clear hb3 o0 o1 o2 o3 o4 o5
  go_wp2_with (first
    | (go_at_call 40; refine (KC.out _).mono ?_; rintro e w6 ⟨rfl, hcell, hb⟩))
  go_ret
  refine ⟨ret_bs ?_, HB3.out.trans (hb.mono HB3.out.size)⟩
  rw [HE.out]
  simp only [← sy_app, HC.out, HI.out, HG.out]
  all_goals rfl
set_option maxHeartbeats 8000000 in
theorem rbits62 (pl c d m le sk y : Int) (hd : B8 d) (hy : 0 ≤ y ∧ y ≤ 7)  (hpl : pl ≠ 1) (w : World) :
    Calls Tryd.prog 19 #[opV pl c d m le sk, .int .i64 2, .int .i64 y, .int .i64 6] w fun e w' => e = .returned (.string (sy pl d m (bitsT pl 2 y 6))) ∧ Below w.heap.size w w' := by
  have HE : bitsT pl 2 y 6 = [114, 101, 115, 32] ++ pick digN y ++ [44] ++ ([259]) := by
    unfold bitsT
    simp only [hpl, if_true, if_false, ne_eq, not_true_eq_false, not_false_eq_true, false_and, and_false, true_and, and_true, Int.reduceEq]
    all_goals rfl
  have HE := Lib.hid HE
  have kg := fun W => rreg0_any 6 (by omega) W
  have zG := pick_size regN (by decide) 6
  have hGG := pick_sy pl d m regN (by decide) 6
  generalize sb (pick regN 6) = RG at *
  have KG := Lib.hid kg
  have HG := Lib.hid hGG
  have ki := fun W => rIndex_any pl d hd W
  have zI0 := sy_size pl d m [259]
  rw [index_sy pl d m] at ki
  generalize hRI : sy pl d m [259] = RI at *
  have HI := Lib.hid hRI
  have zI : RI.size ≤ 8 := by simpa using zI0
  have KI := Lib.hid ki
  clear kg hGG ki hRI zI0
  have hpb : (pl == 1) = false := by simpa using hpl
  clear hpl
  have kc := fun W => rdigits10_any y 1 hy.1 (by omega) (by omega) W
  rw [rdig_digs y hy] at kc
  have zC := pick_size digN (by decide) y
  have hCC := pick_sy pl d m digN (by decide) y
  generalize sb (pick digN y) = RC at *
  have KC := Lib.hid kc
  have HC := Lib.hid hCC
  clear kc hCC
  go_enter Tryd.func19, Tryd.ntmps19
  go_wp2_with fail
  refine (KG.out _).mono ?_
  rintro e w1 ⟨rfl, hb1⟩
  have r1 := (Row.new w 24 #[.int .i64 pl, .int .u8 c, .int .u8 d, .int .u16 m, .int .i64 le, .int .i64 sk]).below hb1 (by simp)
  have HB1 := Lib.hid (((Below.refl _ w).alloc (Nat.le_refl _) _).trans (hb1.mono (by simp)))
  obtain ⟨o0, o1, o2, o3, o4, o5⟩ := row6c r1
  have hsz := r1.lt
  have R1 := Lib.hid r1
  clear hb1 r1
  go_wp2_with fail
  refine (KI.out _).mono ?_
  rintro e w2 ⟨rfl, hb2⟩
  have r2 := R1.out.below hb2 hsz
  have HB2 := Lib.hid (HB1.out.trans (hb2.mono HB1.out.size))
  clear o0 o1 o2 o3 o4 o5
  obtain ⟨o0, o1, o2, o3, o4, o5⟩ := row6c r2
  have hsz2 := r2.lt
  clear hb2 r2
  have hcx : (w2.alloc (.cells #[.string ⟨#[]⟩, .string ⟨#[98, 105, 116, 32]⟩, .string ⟨#[114, 101, 115, 32]⟩, .string ⟨#[115, 101, 116, 32]⟩] 9)).cell? ⟨w2.heap.size, 2, none⟩ = some (.string ⟨#[114, 101, 115, 32]⟩) := (Row.new w2 _ _).cell 2
  have HCX := Lib.hid hcx
  clear hcx
  have b0 : ¬ 9223372036854775807 < 4 + RC.size := by omega
  have b1 : ¬ 9223372036854775807 < 4 + RC.size + 1 := by omega
  have b2 : ¬ 9223372036854775807 < 4 + RC.size + 1 + RI.size := by omega
  go_wp2_with fail
  go_region_with (first
    | (go_at_call 41; refine (KC.out _).mono ?_; rintro e w6 ⟨rfl, hb⟩; (first | have hcl := cell_kept HCX.out ((Below.drew (Below.refl _ _)).trans hb) | have hcl := cell_kept HCX.out hb | skip); first | have HB6 := Lib.hid (HB2.out.drew.trans (hb.mono HB2.out.drew.size)) | have HB6 := Lib.hid ((HB2.out.alloc HB2.out.size _).drew.trans (hb.mono (HB2.out.alloc HB2.out.size _).drew.size))))
  all_goals go_wp2
  all_goals
    go_ret
    refine ⟨ret_bs ?_, by first | exact HB6.out | exact HB6.out.alloc HB6.out.size _⟩
    rw [HE.out]
    simp only [← sy_app, HC.out, HI.out]
    all_goals rfl
set_option maxHeartbeats 8000000 in
theorem rbitsC2 (pl c d m le sk y z : Int) (hd : B8 d) (hy : 0 ≤ y ∧ y ≤ 7) (hz : 0 ≤ z ∧ z ≤ 7) (hpl : pl ≠ 1) (hzz : z ≠ 6) (w : World) :
    Calls Tryd.prog 19 #[opV pl c d m le sk, .int .i64 2, .int .i64 y, .int .i64 z] w fun e w' => e = .returned (.string (sy pl d m (bitsT pl 2 y z))) ∧ Below w.heap.size w w' := by
  have HE : bitsT pl 2 y z = [114, 101, 115, 32] ++ pick digN y ++ [44] ++ ([259] ++ [44] ++ pick regN z) := by
    unfold bitsT
    simp only [hpl, hzz, if_true, if_false, ne_eq, not_true_eq_false, not_false_eq_true, false_and, and_false, true_and, and_true, Int.reduceEq]
    all_goals rfl
  have HE := Lib.hid HE
  have kg := fun W => rreg0_any z hz W
  have zG := pick_size regN (by decide) z
  have hGG := pick_sy pl d m regN (by decide) z
  generalize sb (pick regN z) = RG at *
  have KG := Lib.hid kg
  have HG := Lib.hid hGG
  have ki := fun W => rIndex_any pl d hd W
  have zI0 := sy_size pl d m [259]
  rw [index_sy pl d m] at ki
  generalize hRI : sy pl d m [259] = RI at *
  have HI := Lib.hid hRI
  have zI : RI.size ≤ 8 := by simpa using zI0
  have KI := Lib.hid ki
  clear kg hGG ki hRI zI0
  have hpb : (pl == 1) = false := by simpa using hpl
  clear hpl
  have hzb : (z == 6) = false := by simpa using hzz
  clear hzz
  have kc := fun W => rdigits10_any y 1 hy.1 (by omega) (by omega) W
  rw [rdig_digs y hy] at kc
  have zC := pick_size digN (by decide) y
  have hCC := pick_sy pl d m digN (by decide) y
  generalize sb (pick digN y) = RC at *
  have KC := Lib.hid kc
  have HC := Lib.hid hCC
  clear kc hCC
  go_enter Tryd.func19, Tryd.ntmps19
  go_wp2_with fail
  refine (KG.out _).mono ?_
  rintro e w1 ⟨rfl, hb1⟩
  have r1 := (Row.new w 24 #[.int .i64 pl, .int .u8 c, .int .u8 d, .int .u16 m, .int .i64 le, .int .i64 sk]).below hb1 (by simp)
  have HB1 := Lib.hid (((Below.refl _ w).alloc (Nat.le_refl _) _).trans (hb1.mono (by simp)))
  obtain ⟨o0, o1, o2, o3, o4, o5⟩ := row6c r1
  have hsz := r1.lt
  have R1 := Lib.hid r1
  clear hb1 r1
  go_wp2_with fail
  refine (KI.out _).mono ?_
  rintro e w2 ⟨rfl, hb2⟩
  have r2 := R1.out.below hb2 hsz
  have HB2 := Lib.hid (HB1.out.trans (hb2.mono HB1.out.size))
  clear o0 o1 o2 o3 o4 o5
  obtain ⟨o0, o1, o2, o3, o4, o5⟩ := row6c r2
  have hsz2 := r2.lt
  clear hb2 r2
  go_wp2_with fail
  refine (KG.out _).mono ?_
  rintro e w3 ⟨rfl, hb3⟩
  have HB3 := Lib.hid (HB2.out.trans (hb3.mono HB2.out.size))
  have hsz3 : w.heap.size < w3.heap.size := Nat.lt_of_lt_of_le hsz2 hb3.size
  clear hb3 o0 o1 o2 o3 o4 o5
  have hcx : (w3.alloc (.cells #[.string ⟨#[]⟩, .string ⟨#[98, 105, 116, 32]⟩, .string ⟨#[114, 101, 115, 32]⟩, .string ⟨#[115, 101, 116, 32]⟩] 9)).cell? ⟨w3.heap.size, 2, none⟩ = some (.string ⟨#[114, 101, 115, 32]⟩) := (Row.new w3 _ _).cell 2
  have HCX := Lib.hid hcx
  clear hcx
  have b0 : ¬ 9223372036854775807 < 4 + RC.size := by omega
  have b1 : ¬ 9223372036854775807 < 4 + RC.size + 1 := by omega
  have b2 : ¬ 9223372036854775807 < 4 + RC.size + 1 + (RI.size + 1 + RG.size) := by omega
  go_wp2_with fail
  go_region_with (first
    | (go_at_call 41; refine (KC.out _).mono ?_; rintro e w6 ⟨rfl, hb⟩; (first | have hcl := cell_kept HCX.out ((Below.drew (Below.refl _ _)).trans hb) | have hcl := cell_kept HCX.out hb | skip); first | have HB6 := Lib.hid (HB3.out.drew.trans (hb.mono HB3.out.drew.size)) | have HB6 := Lib.hid ((HB3.out.alloc HB3.out.size _).drew.trans (hb.mono (HB3.out.alloc HB3.out.size _).drew.size))))
  all_goals go_wp2
  all_goals
    go_ret
    refine ⟨ret_bs ?_, by first | exact HB6.out | exact HB6.out.alloc HB6.out.size _⟩
    rw [HE.out]
    simp only [← sy_app, HC.out, HI.out, HG.out]
    all_goals rfl
set_option maxHeartbeats 8000000 in
theorem rbits63 (pl c d m le sk y : Int) (hd : B8 d) (hy : 0 ≤ y ∧ y ≤ 7)  (hpl : pl ≠ 1) (w : World) :
    Calls Tryd.prog 19 #[opV pl c d m le sk, .int .i64 3, .int .i64 y, .int .i64 6] w fun e w' => e = .returned (.string (sy pl d m (bitsT pl 3 y 6))) ∧ Below w.heap.size w w' := by
  have HE : bitsT pl 3 y 6 = [115, 101, 116, 32] ++ pick digN y ++ [44] ++ ([259]) := by
    unfold bitsT
    simp only [hpl, if_true, if_false, ne_eq, not_true_eq_false, not_false_eq_true, false_and, and_false, true_and, and_true, Int.reduceEq]
    all_goals rfl
  have HE := Lib.hid HE
  have kg := fun W => rreg0_any 6 (by omega) W
  have zG := pick_size regN (by decide) 6
  have hGG := pick_sy pl d m regN (by decide) 6
  generalize sb (pick regN 6) = RG at *
  have KG := Lib.hid kg
  have HG := Lib.hid hGG
  have ki := fun W => rIndex_any pl d hd W
  have zI0 := sy_size pl d m [259]
  rw [index_sy pl d m] at ki
  generalize hRI : sy pl d m [259] = RI at *
  have HI := Lib.hid hRI
  have zI : RI.size ≤ 8 := by simpa using zI0
  have KI := Lib.hid ki
  clear kg hGG ki hRI zI0
  have hpb : (pl == 1) = false := by simpa using hpl
  clear hpl
  have kc := fun W => rdigits10_any y 1 hy.1 (by omega) (by omega) W
  rw [rdig_digs y hy] at kc
  have zC := pick_size digN (by decide) y
  have hCC := pick_sy pl d m digN (by decide) y
  generalize sb (pick digN y) = RC at *
  have KC := Lib.hid kc
  have HC := Lib.hid hCC
  clear kc hCC
  go_enter Tryd.func19, Tryd.ntmps19
  go_wp2_with fail
  refine (KG.out _).mono ?_
  rintro e w1 ⟨rfl, hb1⟩
  have r1 := (Row.new w 24 #[.int .i64 pl, .int .u8 c, .int .u8 d, .int .u16 m, .int .i64 le, .int .i64 sk]).below hb1 (by simp)
  have HB1 := Lib.hid (((Below.refl _ w).alloc (Nat.le_refl _) _).trans (hb1.mono (by simp)))
  obtain ⟨o0, o1, o2, o3, o4, o5⟩ := row6c r1
  have hsz := r1.lt
  have R1 := Lib.hid r1
  clear hb1 r1
  go_wp2_with fail
  refine (KI.out _).mono ?_
  rintro e w2 ⟨rfl, hb2⟩
  have r2 := R1.out.below hb2 hsz
  have HB2 := Lib.hid (HB1.out.trans (hb2.mono HB1.out.size))
  clear o0 o1 o2 o3 o4 o5
  obtain ⟨o0, o1, o2, o3, o4, o5⟩ := row6c r2
  have hsz2 := r2.lt
  clear hb2 r2
  have hcx : (w2.alloc (.cells #[.string ⟨#[]⟩, .string ⟨#[98, 105, 116, 32]⟩, .string ⟨#[114, 101, 115, 32]⟩, .string ⟨#[115, 101, 116, 32]⟩] 9)).cell? ⟨w2.heap.size, 3, none⟩ = some (.string ⟨#[115, 101, 116, 32]⟩) := (Row.new w2 _ _).cell 3
  have HCX := Lib.hid hcx
  clear hcx
  have b0 : ¬ 9223372036854775807 < 4 + RC.size := by omega
  have b1 : ¬ 9223372036854775807 < 4 + RC.size + 1 := by omega
  have b2 : ¬ 9223372036854775807 < 4 + RC.size + 1 + RI.size := by omega
  go_wp2_with fail
  go_region_with (first
    | (go_at_call 41; refine (KC.out _).mono ?_; rintro e w6 ⟨rfl, hb⟩; (first | have hcl := cell_kept HCX.out ((Below.drew (Below.refl _ _)).trans hb) | have hcl := cell_kept HCX.out hb | skip); first | have HB6 := Lib.hid (HB2.out.drew.trans (hb.mono HB2.out.drew.size)) | have HB6 := Lib.hid ((HB2.out.alloc HB2.out.size _).drew.trans (hb.mono (HB2.out.alloc HB2.out.size _).drew.size))))
  all_goals go_wp2
  all_goals
    go_ret
    refine ⟨ret_bs ?_, by first | exact HB6.out | exact HB6.out.alloc HB6.out.size _⟩
    rw [HE.out]
    simp only [← sy_app, HC.out, HI.out]
    all_goals rfl
set_option maxHeartbeats 8000000 in
theorem rbitsC3 (pl c d m le sk y z : Int) (hd : B8 d) (hy : 0 ≤ y ∧ y ≤ 7) (hz : 0 ≤ z ∧ z ≤ 7) (hpl : pl ≠ 1) (hzz : z ≠ 6) (w : World) :
    Calls Tryd.prog 19 #[opV pl c d m le sk, .int .i64 3, .int .i64 y, .int .i64 z] w fun e w' => e = .returned (.string (sy pl d m (bitsT pl 3 y z))) ∧ Below w.heap.size w w' := by
  have HE : bitsT pl 3 y z = [115, 101, 116, 32] ++ pick digN y ++ [44] ++ ([259] ++ [44] ++ pick regN z) := by
    unfold bitsT
    simp only [hpl, hzz, if_true, if_false, ne_eq, not_true_eq_false, not_false_eq_true, false_and, and_false, true_and, and_true, Int.reduceEq]
    all_goals rfl
  have HE := Lib.hid HE
  have kg := fun W => rreg0_any z hz W
  have zG := pick_size regN (by decide) z
  have hGG := pick_sy pl d m regN (by decide) z
  generalize sb (pick regN z) = RG at *
  have KG := Lib.hid kg
  have HG := Lib.hid hGG
  have ki := fun W => rIndex_any pl d hd W
  have zI0 := sy_size pl d m [259]
  rw [index_sy pl d m] at ki
  generalize hRI : sy pl d m [259] = RI at *
  have HI := Lib.hid hRI
  have zI : RI.size ≤ 8 := by simpa using zI0
  have KI := Lib.hid ki
  clear kg hGG ki hRI zI0
  have hpb : (pl == 1) = false := by simpa using hpl
  clear hpl
  have hzb : (z == 6) = false := by simpa using hzz
  clear hzz
  have kc := fun W => rdigits10_any y 1 hy.1 (by omega) (by omega) W
  rw [rdig_digs y hy] at kc
  have zC := pick_size digN (by decide) y
  have hCC := pick_sy pl d m digN (by decide) y
  generalize sb (pick digN y) = RC at *
  have KC := Lib.hid kc
  have HC := Lib.hid hCC
  clear kc hCC
  go_enter Tryd.func19, Tryd.ntmps19
  go_wp2_with fail
  refine (KG.out _).mono ?_
  rintro e w1 ⟨rfl, hb1⟩
  have r1 := (Row.new w 24 #[.int .i64 pl, .int .u8 c, .int .u8 d, .int .u16 m, .int .i64 le, .int .i64 sk]).below hb1 (by simp)
  have HB1 := Lib.hid (((Below.refl _ w).alloc (Nat.le_refl _) _).trans (hb1.mono (by simp)))
  obtain ⟨o0, o1, o2, o3, o4, o5⟩ := row6c r1
  have hsz := r1.lt
  have R1 := Lib.hid r1
  clear hb1 r1
  go_wp2_with fail
  refine (KI.out _).mono ?_
  rintro e w2 ⟨rfl, hb2⟩
  have r2 := R1.out.below hb2 hsz
  have HB2 := Lib.hid (HB1.out.trans (hb2.mono HB1.out.size))
  clear o0 o1 o2 o3 o4 o5
  obtain ⟨o0, o1, o2, o3, o4, o5⟩ := row6c r2
  have hsz2 := r2.lt
  clear hb2 r2
  go_wp2_with fail
  refine (KG.out _).mono ?_
  rintro e w3 ⟨rfl, hb3⟩
  have HB3 := Lib.hid (HB2.out.trans (hb3.mono HB2.out.size))
  have hsz3 : w.heap.size < w3.heap.size := Nat.lt_of_lt_of_le hsz2 hb3.size
  clear hb3 o0 o1 o2 o3 o4 o5
  have hcx : (w3.alloc (.cells #[.string ⟨#[]⟩, .string ⟨#[98, 105, 116, 32]⟩, .string ⟨#[114, 101, 115, 32]⟩, .string ⟨#[115, 101, 116, 32]⟩] 9)).cell? ⟨w3.heap.size, 3, none⟩ = some (.string ⟨#[115, 101, 116, 32]⟩) := (Row.new w3 _ _).cell 3
  have HCX := Lib.hid hcx
  clear hcx
  have b0 : ¬ 9223372036854775807 < 4 + RC.size := by omega
  have b1 : ¬ 9223372036854775807 < 4 + RC.size + 1 := by omega
  have b2 : ¬ 9223372036854775807 < 4 + RC.size + 1 + (RI.size + 1 + RG.size) := by omega
  go_wp2_with fail
  go_region_with (first
    | (go_at_call 41; refine (KC.out _).mono ?_; rintro e w6 ⟨rfl, hb⟩; (first | have hcl := cell_kept HCX.out ((Below.drew (Below.refl _ _)).trans hb) | have hcl := cell_kept HCX.out hb | skip); first | have HB6 := Lib.hid (HB3.out.drew.trans (hb.mono HB3.out.drew.size)) | have HB6 := Lib.hid ((HB3.out.alloc HB3.out.size _).drew.trans (hb.mono (HB3.out.alloc HB3.out.size _).drew.size))))
  all_goals go_wp2
  all_goals
    go_ret
    refine ⟨ret_bs ?_, by first | exact HB6.out | exact HB6.out.alloc HB6.out.size _⟩
    rw [HE.out]
    simp only [← sy_app, HC.out, HI.out, HG.out]
    all_goals rfl
theorem rbits_any (pl c d m le sk x y z : Int) (hd : B8 d) (hx : 0 ≤ x ∧ x ≤ 3) (hy : 0 ≤ y ∧ y ≤ 7) (hz : 0 ≤ z ∧ z ≤ 7) (w : World) :
    Calls Tryd.prog 19 #[opV pl c d m le sk, .int .i64 x, .int .i64 y, .int .i64 z] w fun e w' => e = .returned (.string (sy pl d m (bitsT pl x y z))) ∧ Below w.heap.size w w' := by
  by_cases hp : pl = 1
  · subst hp
    obtain rfl | rfl | rfl | rfl : x = 0 ∨ x = 1 ∨ x = 2 ∨ x = 3 := by omega
    · exact rbitsA0 c d m le sk y z hd hy hz w
    · exact rbitsA1 c d m le sk y z hd hy hz w
    · exact rbitsA2 c d m le sk y z hd hy hz w
    · exact rbitsA3 c d m le sk y z hd hy hz w
  by_cases hx1 : x = 1
  · subst hx1
    exact rbitsB1 pl c d m le sk y z hd hy hz hp w
  by_cases hz6 : z = 6
  · subst hz6
    obtain rfl | rfl | rfl : x = 0 ∨ x = 2 ∨ x = 3 := by omega
    · exact rbits60 pl c d m le sk y hd hy hp w
    · exact rbits62 pl c d m le sk y hd hy hp w
    · exact rbits63 pl c d m le sk y hd hy hp w
  · obtain rfl | rfl | rfl : x = 0 ∨ x = 2 ∨ x = 3 := by omega
    · exact rbitsC0 pl c d m le sk y z hd hy hz hp hz6 w
    · exact rbitsC2 pl c d m le sk y z hd hy hz hp hz6 w
    · exact rbitsC3 pl c d m le sk y z hd hy hz hp hz6 w
end Go.Proofs.YtgdpafldhmchpaaDoor
