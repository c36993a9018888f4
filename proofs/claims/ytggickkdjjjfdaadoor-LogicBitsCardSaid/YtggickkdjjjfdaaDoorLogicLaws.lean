/- Layer 5 (logic): the walks of the four laws. -/
import Derived.Test.YtggickkdjjjfdaaDoorLogicDaa
import Derived.Test.YtggickkdjjjfdaaDoorLogicRefDaa
import Derived.Test.YtggickkdjjjfdaaDoorLogicDec
namespace Go.Proofs.YtggickkdjjjfdaaDoor
open Go.RowKit
set_option linter.unusedVariables false
set_option linter.unusedSimpArgs false

theorem lawake_consts : daaR 154 0 = 0 ∧ daaF 154 0 = 85 ∧ andR 12 10 = 8 ∧ andFl 8 = 24 ∧ orR 12 3 = 15 ∧ evenFM 15 = 12 ∧ xorR 12 10 = 6 ∧ evenFM 6 = 4 ∧ cplF 0 0 = 58 ∧ scfF 0 0 = 1 ∧ ccfF 0 1 = 16 := by decide +kernel
set_option maxHeartbeats 4000000 in
theorem lawake_any (w : World) (hd : Digits w) :
    Calls Tryd.prog 7 #[] w fun e w' => e = .returned (.bool true) ∧ Below w.heap.size w w' := by
  obtain ⟨c0, c1, c2, c3, c4, c5, c6, c7, c8, c9, c10⟩ := lawake_consts
  have hd := Lib.hid hd
  go_enter Tryd.func7, Tryd.ntmps7
  go_wp2_with (first
    | (go_at_call 16; refine (daa_any _ _ ⟨by omega, by omega⟩ ⟨by omega, by omega⟩ _ (hd.out.below (by repeat (first | exact Below.refl _ _ | assumption | refine bstep ?_ (by assumption) | refine Below.drew ?_ | refine Below.alloc ?_ (by first | (simp; done) | (simp; omega) | omega) _ | refine Below.setCell ?_ (by first | (simp; done) | (simp; omega) | omega) _)))).mono ?_; rintro e w' ⟨rfl, hb⟩; have hsz := hb.size)
    | (go_at_call 8; refine (and_any _ _ ⟨by omega, by omega⟩ ⟨by omega, by omega⟩ _).mono ?_; rintro e w' ⟨rfl, hb⟩; have hsz := hb.size)
    | (go_at_call 10; refine (or_any _ _ ⟨by omega, by omega⟩ ⟨by omega, by omega⟩ _).mono ?_; rintro e w' ⟨rfl, hb⟩; have hsz := hb.size)
    | (go_at_call 12; refine (xor_any _ _ ⟨by omega, by omega⟩ ⟨by omega, by omega⟩ _).mono ?_; rintro e w' ⟨rfl, hb⟩; have hsz := hb.size)
    | (go_at_call 14; refine (cpl_any _ _ ⟨by omega, by omega⟩ ⟨by omega, by omega⟩ _).mono ?_; rintro e w' ⟨rfl, rfl⟩)
    | (go_at_call 18; refine (scf_any _ _ ⟨by omega, by omega⟩ ⟨by omega, by omega⟩ _).mono ?_; rintro e w' ⟨rfl, rfl⟩)
    | (go_at_call 20; refine (ccf_any _ _ ⟨by omega, by omega⟩ ⟨by omega, by omega⟩ _).mono ?_; rintro e w' ⟨rfl, rfl⟩))
  go_ret
  exact ⟨rfl, (by repeat (first | exact Below.refl _ _ | assumption | refine bstep ?_ (by assumption) | refine Below.drew ?_ | refine Below.alloc ?_ (by first | (simp; done) | (simp; omega) | omega) _ | refine Below.setCell ?_ (by first | (simp; done) | (simp; omega) | omega) _))⟩
set_option maxHeartbeats 4000000 in
theorem logicBits_walk (a b : Int) (h0 : 0 ≤ a) (h0' : a ≤ 255) (h1 : 0 ≤ b) (h1' : b ≤ 255) (w : World) (hd : Digits w) :
    Calls Tryd.prog 3 #[.int .u8 a, .int .u8 b] w fun e w' => e = .returned (.bool true) ∧ Below w.heap.size w w' := by
  have r1 : B8 a := ⟨h0, h0'⟩
  have r2 : B8 b := ⟨h1, h1'⟩
  have hd := Lib.hid hd
  go_enter Tryd.func3, Tryd.ntmps3
  go_wp2_with (first
    | (go_at_call 7; refine (lawake_any _ hd.out).mono ?_; rintro e w' ⟨rfl, hb⟩; have hsz := hb.size)
    | (go_at_call 8; refine (and_any _ _ (by assumption) (by assumption) _).mono ?_; rintro e w' ⟨rfl, hb⟩; have hsz := hb.size)
    | (go_at_call 9; refine (rand_any _ _ (by assumption) (by assumption) _).mono ?_; rintro e w' ⟨rfl, hb⟩; have hsz := hb.size)
    | (go_at_call 10; refine (or_any _ _ (by assumption) (by assumption) _).mono ?_; rintro e w' ⟨rfl, hb⟩; have hsz := hb.size)
    | (go_at_call 11; refine (ror_any _ _ (by assumption) (by assumption) _).mono ?_; rintro e w' ⟨rfl, hb⟩; have hsz := hb.size)
    | (go_at_call 12; refine (xor_any _ _ (by assumption) (by assumption) _).mono ?_; rintro e w' ⟨rfl, hb⟩; have hsz := hb.size)
    | (go_at_call 13; refine (rxor_any _ _ (by assumption) (by assumption) _).mono ?_; rintro e w' ⟨rfl, hb⟩; have hsz := hb.size))
  go_ret
  exact ⟨rfl, (by repeat (first | exact Below.refl _ _ | assumption | refine bstep ?_ (by assumption) | refine Below.drew ?_ | refine Below.alloc ?_ (by first | (simp; done) | (simp; omega) | omega) _ | refine Below.setCell ?_ (by first | (simp; done) | (simp; omega) | omega) _))⟩
set_option maxHeartbeats 4000000 in
theorem logicTurns_walk (a f : Int) (h0 : 0 ≤ a) (h0' : a ≤ 255) (h1 : 0 ≤ f) (h1' : f ≤ 255) (w : World) (hd : Digits w) :
    Calls Tryd.prog 4 #[.int .u8 a, .int .u8 f] w fun e w' => e = .returned (.bool true) ∧ Below w.heap.size w w' := by
  have r1 : B8 a := ⟨h0, h0'⟩
  have r2 : B8 f := ⟨h1, h1'⟩
  have hd := Lib.hid hd
  go_enter Tryd.func4, Tryd.ntmps4
  go_wp2_with (first
    | (go_at_call 7; refine (lawake_any _ hd.out).mono ?_; rintro e w' ⟨rfl, hb⟩; have hsz := hb.size)
    | (go_at_call 14; refine (cpl_any _ _ (by assumption) (by assumption) _).mono ?_; rintro e w' ⟨rfl, rfl⟩)
    | (go_at_call 15; refine (rcpl_any _ _ (by assumption) (by assumption) _).mono ?_; rintro e w' ⟨rfl, hb⟩; have hsz := hb.size)
    | (go_at_call 16; refine (daa_any _ _ (by assumption) (by assumption) _ (hd.out.below (by repeat (first | exact Below.refl _ _ | assumption | refine bstep ?_ (by assumption) | refine Below.drew ?_ | refine Below.alloc ?_ (by first | (simp; done) | (simp; omega) | omega) _ | refine Below.setCell ?_ (by first | (simp; done) | (simp; omega) | omega) _)))).mono ?_; rintro e w' ⟨rfl, hb⟩; have hsz := hb.size)
    | (go_at_call 17; refine (rdaa_any _ _ (by assumption) (by assumption) _).mono ?_; rintro e w' ⟨rfl, hb⟩; have hsz := hb.size)
    | (go_at_call 18; refine (scf_any _ _ (by assumption) (by assumption) _).mono ?_; rintro e w' ⟨rfl, rfl⟩)
    | (go_at_call 19; refine (rscf_any _ _ (by assumption) (by assumption) _).mono ?_; rintro e w' ⟨rfl, hb⟩; have hsz := hb.size)
    | (go_at_call 20; refine (ccf_any _ _ (by assumption) (by assumption) _).mono ?_; rintro e w' ⟨rfl, rfl⟩)
    | (go_at_call 21; refine (rccf_any _ _ (by assumption) (by assumption) _).mono ?_; rintro e w' ⟨rfl, hb⟩; have hsz := hb.size))
  go_ret
  exact ⟨rfl, (by repeat (first | exact Below.refl _ _ | assumption | refine bstep ?_ (by assumption) | refine Below.drew ?_ | refine Below.alloc ?_ (by first | (simp; done) | (simp; omega) | omega) _ | refine Below.setCell ?_ (by first | (simp; done) | (simp; omega) | omega) _))⟩
theorem mkM_sum : ∀ b0 b1 b2 b3 b4 b5 b6 b7 : Bool, mkM b0 b1 b2 b3 b4 b5 b6 b7 = 128 * one b0 + 64 * one b1 + 32 * one b2 + 16 * one b3 + 8 * one b4 + 4 * one b5 + 2 * one b6 + one b7 := by decide +kernel
theorem one_sets : ∀ x y : Bool, one (orB x y) = one (andB x y) + one (xorB x y) := by decide
theorem sets_sum (a b : Int) : andR a b + xorR a b = orR a b := by
  unfold andR xorR orR mergeM
  simp only [mkM_sum, one_sets]
  omega
theorem sets_or (a b : Int) : bits .or .u8 (andR a b) (xorR a b) = orR a b := by
  have h1 : B8 (andR a b) := mkM_byte ..
  have h2 : B8 (xorR a b) := mkM_byte ..
  have h3 : B8 (orR a b) := mkM_byte ..
  have h4 := or_byte _ _ h1.1 h1.2 h2.1 h2.2
  refine byte_ext _ _ h4.1 h4.2 h3.1 h3.2 fun n hn => ?_
  rw [isM_or _ _ n hn h1.1 h1.2 h2.1 h2.2]
  unfold andR xorR orR mergeM
  rw [isM_mkM _ _ _ _ _ _ _ _ n hn, isM_mkM _ _ _ _ _ _ _ _ n hn, isM_mkM _ _ _ _ _ _ _ _ n hn]
  have k : ∀ x y : Bool, (andB x y || xorB x y) = orB x y := by decide
  refine nat8 (fun n => ([_, _, _, _, _, _, _, _].getD n false || [_, _, _, _, _, _, _, _].getD n false) = [_, _, _, _, _, _, _, _].getD n false) ?_ n hn
  simp only [List.getD_cons_zero, List.getD_cons_succ]
  exact ⟨k _ _, k _ _, k _ _, k _ _, k _ _, k _ _, k _ _, k _ _⟩
theorem sets_self (a : Int) (h : B8 a) : andR a a = a ∧ xorR a a = 0 ∧ orR a 255 = 255 := by
  refine ⟨?_, ?_, ?_⟩
  · exact byte_all (P := fun a => andR a a = a) (by decide +kernel) a h.1 h.2
  · exact byte_all (P := fun a => xorR a a = 0) (by decide +kernel) a h.1 h.2
  · exact byte_all (P := fun a => orR a 255 = 255) (by decide +kernel) a h.1 h.2
set_option maxHeartbeats 4000000 in
theorem logicSets_walk (a b : Int) (h0 : 0 ≤ a) (h0' : a ≤ 255) (h1 : 0 ≤ b) (h1' : b ≤ 255) (w : World) (hd : Digits w) :
    Calls Tryd.prog 5 #[.int .u8 a, .int .u8 b] w fun e w' => e = .returned (.bool true) ∧ Below w.heap.size w w' := by
  have r1 : B8 a := ⟨h0, h0'⟩
  have r2 : B8 b := ⟨h1, h1'⟩
  have r3 : B8 (255 - a) := ⟨by omega, by omega⟩
  have r4 : B8 (orR a b) := mkM_byte ..
  obtain ⟨r5, r6⟩ := r4
  have hd := Lib.hid hd
  have e1 := sets_sum a b
  have e2 := sets_or a b
  obtain ⟨e3, e4, e5⟩ := sets_self a r1
  have e6 : evenFM 0 = 68 := by decide +kernel
  have e7 : (a + (255 - a) == 255) = true := by simp; omega
  go_enter Tryd.func5, Tryd.ntmps5
  go_wp2_with (first
    | (go_at_call 7; refine (lawake_any _ hd.out).mono ?_; rintro e w' ⟨rfl, hb⟩; have hsz := hb.size)
    | (go_at_call 8; refine (and_any _ _ (by assumption) (by assumption) _).mono ?_; rintro e w' ⟨rfl, hb⟩; have hsz := hb.size)
    | (go_at_call 10; refine (or_any _ _ (by assumption) (by first | assumption | exact ⟨by omega, by omega⟩) _).mono ?_; rintro e w' ⟨rfl, hb⟩; have hsz := hb.size)
    | (go_at_call 12; refine (xor_any _ _ (by assumption) (by assumption) _).mono ?_; rintro e w' ⟨rfl, hb⟩; have hsz := hb.size)
    | (go_at_call 14; refine (cpl_any _ _ (by assumption) (by first | assumption | exact ⟨by omega, by omega⟩) _).mono ?_; rintro e w' ⟨rfl, rfl⟩))
  go_ret
  exact ⟨rfl, (by repeat (first | exact Below.refl _ _ | assumption | refine bstep ?_ (by assumption) | refine Below.drew ?_ | refine Below.alloc ?_ (by first | (simp; done) | (simp; omega) | omega) _ | refine Below.setCell ?_ (by first | (simp; done) | (simp; omega) | omega) _))⟩
set_option maxRecDepth 20000 in
set_option maxHeartbeats 4000000 in
theorem logicDecimal_walk (x y : Int) (c : Bool) (h0 : 0 ≤ x) (h0' : x ≤ 255) (h1 : 0 ≤ y) (h1' : y ≤ 255) (w : World) (hd : Digits w) :
    Calls Tryd.prog 6 #[.int .u8 x, .int .u8 y, .bool c] w fun e w' => e = .returned (.bool true) ∧ Below w.heap.size w w' := by
  have hd := Lib.hid hd
  obtain ⟨A, hA⟩ : ∃ A, x % 100 / 10 * 16 + x % 10 = A := ⟨_, rfl⟩
  obtain ⟨B, hB⟩ : ∃ B, y % 100 / 10 * 16 + y % 10 = B := ⟨_, rfl⟩
  have rA : B8 A := ⟨by omega, by omega⟩
  have rB : B8 B := ⟨by omega, by omega⟩
  have r1 := addR_byte A B c
  have r2 := addF_byte A B c
  have r3 := subR_byte A B c
  have r4 := subF_byte A B c
  have ha := fun w => radd_any A B c rA rB w
  have hs := fun w => rsub_any A B c rA rB w
  have da := fun w h => daa_any _ _ r1 r2 w h
  have ds := fun w h => daa_any _ _ r3 r4 w h
  have r5 := daaR_byte (addR A B c) (addF A B c)
  have r6 := daaF_byte (addR A B c) (addF A B c)
  have r7 := daaR_byte (subR A B c) (subF A B c)
  have r8 := daaF_byte (subR A B c) (subF A B c)
  obtain ⟨k1, k2, k3, k4⟩ := dec_all x y c A B h0 h1 hA hB _ _ rfl rfl
  generalize daaR (addR A B c) (addF A B c) = D at *
  generalize daaF (addR A B c) (addF A B c) = E at *
  generalize daaR (subR A B c) (subF A B c) = F at *
  generalize daaF (subR A B c) (subF A B c) = G at *
  generalize addR A B c = R at *
  generalize addF A B c = S at *
  generalize subR A B c = T at *
  generalize subF A B c = U at *
  obtain ⟨d0', d1'⟩ := r5
  obtain ⟨d2', d3'⟩ := r7
  clear rA rB r1 r2 r3 r4
  cases c
  · rw [show one false = 0 from rfl] at k1 k2 k3 k4
    simp only [Int.add_zero, Int.sub_zero] at k1 k2 k3 k4
    have k5 : D / 16 * 10 + D % 16 = (x + y) % 100 := k1.trans (Int.add_emod x y 100).symm
    have k6 : F / 16 * 10 + F % 16 = (x - y) % 100 := k3.trans (Int.sub_emod x y 100).symm
    clear k1 k3
    have Ka := Lib.hid k5
    have Kb := Lib.hid k2
    have Kc := Lib.hid k6
    have Kd := Lib.hid k4
    have d0 := Lib.hid d0'
    have d1 := Lib.hid d1'
    have d2 := Lib.hid d2'
    have d3 := Lib.hid d3'
    clear k5 k2 k6 k4 d0' d1' d2' d3'
    go_enter Tryd.func6, Tryd.ntmps6
    go_wp2_with fail
    refine (lawake_any _ hd.out).mono ?_
    rintro e w1 ⟨rfl, hb1⟩
    go_wp2_with fail
    refine (ha _).mono ?_
    rintro e w2 ⟨rfl, hb2⟩
    clear hA hB
    go_wp2_with fail
    refine (da _ ((hd.out.below hb1).below hb2)).mono ?_
    rintro e w3 ⟨rfl, hb3⟩
    have d0 := d0.out
    have d1 := d1.out
    have ka := Ka.out
    have kb := Kb.out
    go_wp2_with fail
    refine (hs _).mono ?_
    rintro e w4 ⟨rfl, hb4⟩
    clear ka kb d0 d1
    go_wp2_with fail
    refine (ds _ ((((hd.out.below hb1).below hb2).below hb3).below hb4)).mono ?_
    rintro e w5 ⟨rfl, hb5⟩
    have d2 := d2.out
    have d3 := d3.out
    have kc := Kc.out
    have kd := Kd.out
    go_wp2_with fail
    go_ret
    exact ⟨rfl, (by repeat (first | exact Below.refl _ _ | assumption | refine bstep ?_ (by assumption) | refine Below.drew ?_ | refine Below.alloc ?_ (by first | (simp; done) | (simp; omega) | omega) _ | refine Below.setCell ?_ (by first | (simp; done) | (simp; omega) | omega) _))⟩
  · rw [show one true = 1 from rfl] at k1 k2 k3 k4
    have Ka := Lib.hid k1
    have Kb := Lib.hid k2
    have Kc := Lib.hid k3
    have Kd := Lib.hid k4
    have d0 := Lib.hid d0'
    have d1 := Lib.hid d1'
    have d2 := Lib.hid d2'
    have d3 := Lib.hid d3'
    clear k1 k2 k3 k4 d0' d1' d2' d3'
    go_enter Tryd.func6, Tryd.ntmps6
    go_wp2_with fail
    refine (lawake_any _ hd.out).mono ?_
    rintro e w1 ⟨rfl, hb1⟩
    go_wp2_with fail
    refine (ha _).mono ?_
    rintro e w2 ⟨rfl, hb2⟩
    clear hA hB
    go_wp2_with fail
    refine (da _ ((hd.out.below hb1).below hb2)).mono ?_
    rintro e w3 ⟨rfl, hb3⟩
    have d0 := d0.out
    have d1 := d1.out
    have ka := Ka.out
    have kb := Kb.out
    go_wp2_with fail
    refine (hs _).mono ?_
    rintro e w4 ⟨rfl, hb4⟩
    clear ka kb d0 d1
    go_wp2_with fail
    refine (ds _ ((((hd.out.below hb1).below hb2).below hb3).below hb4)).mono ?_
    rintro e w5 ⟨rfl, hb5⟩
    have d2 := d2.out
    have d3 := d3.out
    have kc := Kc.out
    have kd := Kd.out
    go_wp2_with fail
    go_ret
    exact ⟨rfl, (by repeat (first | exact Below.refl _ _ | assumption | refine bstep ?_ (by assumption) | refine Below.drew ?_ | refine Below.alloc ?_ (by first | (simp; done) | (simp; omega) | omega) _ | refine Below.setCell ?_ (by first | (simp; done) | (simp; omega) | omega) _))⟩
end Go.Proofs.YtggickkdjjjfdaaDoor
