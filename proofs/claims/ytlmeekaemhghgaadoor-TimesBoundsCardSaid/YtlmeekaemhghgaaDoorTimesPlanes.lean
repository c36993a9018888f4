/- Layer 10 (times): the walk of the law of planes. -/
import Derived.Test.YtlmeekaemhghgaaDoorTimesLaws
namespace Go.Proofs.YtlmeekaemhghgaaDoor
open Go.RowKit
set_option linter.unusedVariables false
set_option linter.unusedSimpArgs false

theorem of_zero (p c : Int) (t : Bool) (hp : 0 ≤ p ∧ p ≤ 6) (hc : B8 c) : ofM p c 0 t = netM p c t := by
  rw [of_small p c 0 t hp (by omega) hc]
  omega
set_option maxHeartbeats 4000000 in
theorem timesPlanes_walk (c : Int) (t : Bool) (c0 : 0 ≤ c) (c1 : c ≤ 255) (w : World) (ht : TimesTabs w) :
    Calls Tryd.prog 6 #[.int .u8 c, .bool t] w fun e w' => e = .returned (.bool true) ∧ Below w.heap.size w w' := by
  have hc : B8 c := ⟨c0, c1⟩
  have ka := Lib.hid (fun W (hW : Below w.heap.size w W) => xawake_any W (ht.below hW))
  have kk := fun (p : Int) (hp : 0 ≤ p ∧ p ≤ 6) W (hW : Below w.heap.size w W) => show Calls Tryd.prog 9 #[opV p c 0 0 0 0, .bool t] W fun e w' => e = .returned (.int .i64 (netM p c t)) ∧ Below W.heap.size W w' by
    have h := timesOf_any p c 0 0 0 0 t hc W (ht.below hW)
    rwa [of_zero p c t hp hc] at h
  have kA := Lib.hid (kk 0 (by omega))
  have kB := Lib.hid (kk 3 (by omega))
  have kC := Lib.hid (kk 4 (by omega))
  have kD := Lib.hid (kk 5 (by omega))
  have kE := Lib.hid (kk 6 (by omega))
  obtain ⟨x1, x2, x3⟩ := xy_all c t hc
  have bA := net_le 0 c t hc
  rw [← x1] at kC
  rw [← x2] at kE
  have x3 := Lib.hid x3
  clear kk ht x1 x2 hc
  generalize netM 0 c t = A at *
  generalize netM 3 c t = B at *
  generalize netM 5 c t = D at *
  have HB0 := Lib.hid (Below.refl w.heap.size w)
  go_enter Tryd.func6, Tryd.ntmps6
  go_wp2_with fail
  refine (ka.out _ HB0.out).mono ?_
  rintro e w1 ⟨rfl, hb⟩
  have HB1 := Lib.hid (HB0.out.trans (hb.mono HB0.out.size))
  clear hb
  go_wp2_with fail
  refine (kA.out _ HB1.out).mono ?_
  rintro e w2 ⟨rfl, hb⟩
  have HB2 := Lib.hid (HB1.out.trans (hb.mono HB1.out.size))
  clear hb
  go_wp2_with fail
  refine (kB.out _ HB2.out).mono ?_
  rintro e w3 ⟨rfl, hb⟩
  have HB3 := Lib.hid (HB2.out.trans (hb.mono HB2.out.size))
  clear hb
  go_wp2_with fail
  refine (kC.out _ HB3.out).mono ?_
  rintro e w4 ⟨rfl, hb⟩
  have HB4 := Lib.hid (HB3.out.trans (hb.mono HB3.out.size))
  clear hb
  go_wp2_with fail
  refine (kD.out _ HB4.out).mono ?_
  rintro e w5 ⟨rfl, hb⟩
  have HB5 := Lib.hid (HB4.out.trans (hb.mono HB4.out.size))
  clear hb
  go_wp2_with fail
  refine (kE.out _ HB5.out).mono ?_
  rintro e w6 ⟨rfl, hb⟩
  have HB6 := Lib.hid (HB5.out.trans (hb.mono HB5.out.size))
  clear hb
  obtain rfl | rfl | ⟨rfl, rfl⟩ := x3.out
  · clear x3
    go_wp2
    go_ret
    exact ⟨rfl, HB6.out⟩
  · clear x3
    have e1 : (A + 12 == A + 4) = false := by simp
    go_wp2
    go_ret
    exact ⟨rfl, HB6.out⟩
  · clear x3
    have e1 : (A + 9 == A + 4) = false := by simp
    have e2 : (A + 9 == A + 12) = false := by simp
    go_wp2
    go_ret
    exact ⟨rfl, HB6.out⟩
end Go.Proofs.YtlmeekaemhghgaaDoor
