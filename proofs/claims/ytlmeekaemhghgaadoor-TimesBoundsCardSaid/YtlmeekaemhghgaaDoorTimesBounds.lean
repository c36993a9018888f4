/- Layer 10 (times): the walk of the law of bounds. -/
import Derived.Test.YtlmeekaemhghgaaDoorTimesPlanes
import Derived.Deep.DeepCutAuto
namespace Go.Proofs.YtlmeekaemhghgaaDoor
open Go.RowKit
set_option linter.unusedVariables false
set_option linter.unusedSimpArgs false

theorem asks_two (p c : Int) (hp : 0 ≤ p ∧ p ≤ 6) (hc : B8 c) : asksM p c 2 = (netM p c true != netM p c false) := by
  unfold asksM
  rw [of_small p c 2 true hp (by omega) hc, of_small p c 2 false hp (by omega) hc]
  rw [Bool.eq_iff_iff]
  simp only [bne_iff_ne, ne_eq]
  omega
set_option maxHeartbeats 4000000 in
theorem timesBounds_walk (p c d : Int) (c0 : 0 ≤ c) (c1 : c ≤ 255) (d0 : 0 ≤ d) (d1 : d ≤ 255) (w : World) (ht : TimesTabs w) :
    Calls Tryd.prog 5 #[.int .i64 p, .int .u8 c, .int .u8 d] w fun e w' => e = .returned (.bool true) ∧ Below w.heap.size w w' := by
  have hc : B8 c := ⟨c0, c1⟩
  have ka := Lib.hid (fun W (hW : Below w.heap.size w W) => xawake_any W (ht.below hW))
  have kk := Lib.hid (fun s t W (hW : Below w.heap.size w W) => timesOf_any p c d 0 0 s t hc W (ht.below hW))
  have kq := Lib.hid (fun s W (hW : Below w.heap.size w W) => timesAsks_any p c d 0 0 s hc W (ht.below hW))
  have HB0 := Lib.hid (Below.refl w.heap.size w)
  clear ht
  by_cases hp : p < 0 ∨ 6 < p
  · have hno := fun t => of_no p c 0 t hp
    have k1 := Lib.hid (show ∀ t W, Below w.heap.size w W → Calls Tryd.prog 9 #[opV p c d 0 0 0, .bool t] W fun e w' => e = .returned (.int .i64 0) ∧ Below W.heap.size W w' from fun t W hW => by
      have h := kk.out 0 t W hW
      rwa [hno t] at h)
    clear kk kq hno
    go_enter Tryd.func5, Tryd.ntmps5
    go_wp2_with fail
    refine (ka.out _ HB0.out).mono ?_
    rintro e w1 ⟨rfl, hb⟩
    have HB1 := Lib.hid (HB0.out.trans (hb.mono HB0.out.size))
    clear hb
    have r1 := Row.new w1 24 #[.int .i64 p, .int .u8 c, .int .u8 d, .int .u16 0, .int .i64 0, .int .i64 0]
    have HB1' := Lib.hid (HB1.out.alloc HB1.out.size (.cells #[.int .i64 p, .int .u8 c, .int .u8 d, .int .u16 0, .int .i64 0, .int .i64 0] 24))
    go_wp2_with fail
    refine (k1.out false _ HB1'.out).mono ?_
    rintro e w2 ⟨rfl, hb⟩
    have HB2 := Lib.hid (HB1'.out.trans (hb.mono HB1'.out.size))
    have r2 := r1.below hb r1.lt
    obtain ⟨⟨l0, l1, l2, l3, l4, l5⟩, f⟩ := row6 r2
    have hg := r2.lt
    clear hb r1
    go_wp2_with fail
    refine (k1.out true _ HB2.out).mono ?_
    rintro e w3 ⟨rfl, hb⟩
    have HB3 := Lib.hid (HB2.out.trans (hb.mono HB2.out.size))
    have r3 := Lib.hid (r2.below hb r2.lt)
    clear hb r2 l0 l1 l2 l3 l4 l5 f
    clear r3
    obtain hp1 | hp1 := hp
    all_goals
      go_wp2
      go_ret
      exact ⟨rfl, HB3.out⟩
  · have hp' : 0 ≤ p ∧ p ≤ 6 := by omega
    have k1 := Lib.hid (show ∀ t W, Below w.heap.size w W → Calls Tryd.prog 9 #[opV p c d 0 0 0, .bool t] W fun e w' => e = .returned (.int .i64 (netM p c t)) ∧ Below W.heap.size W w' from fun t W hW => by
      have h := kk.out 0 t W hW
      rwa [of_zero p c t hp' hc] at h)
    have k2 := Lib.hid (show ∀ W, Below w.heap.size w W → Calls Tryd.prog 9 #[opV p c d 0 0 2, .bool false] W fun e w' => e = .returned (.int .i64 (netM p c false + 8)) ∧ Below W.heap.size W w' from fun W hW => by
      have h := kk.out 2 false W hW
      rwa [of_small p c 2 false hp' (by omega) hc, show 4 * 2 + netM p c false = netM p c false + 8 by omega] at h)
    have k3 := Lib.hid (show ∀ W, Below w.heap.size w W → Calls Tryd.prog 11 #[opV p c d 0 0 2] W fun e w' => e = .returned (.bool (netM p c true != netM p c false)) ∧ Below W.heap.size W w' from fun W hW => by
      have h := kq.out 2 W hW
      rwa [asks_two p c hp' hc] at h)
    have hn := net_all p c hp' hc
    have kF := Lib.hid (k1.out false)
    have kT := Lib.hid (k1.out true)
    clear kk kq hp k1
    generalize netM p c true = M at *
    generalize netM p c false = n at *
    obtain ⟨⟨hn4, hn23⟩, hm⟩ := hn
    have HM := Lib.hid hm
    clear hm hc
    go_enter Tryd.func5, Tryd.ntmps5
    go_wp2_with fail
    refine (ka.out _ HB0.out).mono ?_
    rintro e w1 ⟨rfl, hb⟩
    have HB1 := Lib.hid (HB0.out.trans (hb.mono HB0.out.size))
    clear hb
    have r1 := Row.new w1 24 #[.int .i64 p, .int .u8 c, .int .u8 d, .int .u16 0, .int .i64 0, .int .i64 0]
    have HB1' := Lib.hid (HB1.out.alloc HB1.out.size (.cells #[.int .i64 p, .int .u8 c, .int .u8 d, .int .u16 0, .int .i64 0, .int .i64 0] 24))
    go_wp2_with fail
    refine (kF.out _ HB1'.out).mono ?_
    rintro e w2 ⟨rfl, hb⟩
    have HB2 := Lib.hid (HB1'.out.trans (hb.mono HB1'.out.size))
    have r2 := r1.below hb r1.lt
    obtain ⟨⟨l0, l1, l2, l3, l4, l5⟩, f⟩ := row6 r2
    have hg := r2.lt
    clear hb r1
    go_wp2_with fail
    refine (kT.out _ HB2.out).mono ?_
    rintro e w3 ⟨rfl, hb⟩
    have HB3 := Lib.hid (HB2.out.trans (hb.mono HB2.out.size))
    have r3 := Lib.hid (r2.below hb r2.lt)
    clear hb r2 l0 l1 l2 l3 l4 l5 f
    obtain ⟨⟨l0, l1, l2, l3, l4, l5⟩, f⟩ := row6 r3.out
    have f5 := f 5
    have hg3 := r3.out.lt
    have r4 : Row (w3.setCell ⟨w1.heap.size, 5, none⟩ (.int .i64 2)) w1.heap.size 24 #[.int .i64 p, .int .u8 c, .int .u8 d, .int .u16 0, .int .i64 0, .int .i64 2] := r3.out.set 5 _
    have HB4 := Lib.hid (HB3.out.setCell (p := ⟨w1.heap.size, 5, none⟩) HB1.out.size (.int .i64 2))
    obtain hp0 := hp'.1
    obtain hp6 := hp'.2
    go_upto_region 10 with (fail)
    clear l0 l1 l2 l3 l4 l5 f f5 hg hg3
    generalize w3.setCell ⟨w1.heap.size, 5, none⟩ (.int .i64 2) = w4 at *
    obtain ⟨⟨l0, l1, l2, l3, l4, l5⟩, f⟩ := row6 r4
    go_wp2_with fail
    refine (k2.out _ HB4.out).mono ?_
    rintro e w5 ⟨rfl, hb⟩
    have HB5 := Lib.hid (HB4.out.trans (hb.mono HB4.out.size))
    have r5 := r4.below hb r4.lt
    clear l0 l1 l2 l3 l4 l5 f hb r4
    obtain ⟨⟨l0, l1, l2, l3, l4, l5⟩, f⟩ := row6 r5
    obtain rfl | hm := HM.out
    · have e1 : (M != M) = false := by simp
      rw [e1] at k3
      clear e1 HM
      go_wp2_with fail
      refine (k3.out _ HB5.out).mono ?_
      rintro e w6 ⟨rfl, hb⟩
      have HB6 := Lib.hid (HB5.out.trans (hb.mono HB5.out.size))
      clear hb
      go_wp2
      go_ret
      exact ⟨rfl, HB6.out⟩
    · have e1 : (M != n) = true := by simp; omega
      have e2 : (M == n) = false := by simp; omega
      rw [e1] at k3
      clear HM
      obtain ⟨m5, m7⟩ := hm
      go_wp2_with fail
      refine (k3.out _ HB5.out).mono ?_
      rintro e w6 ⟨rfl, hb⟩
      have HB6 := Lib.hid (HB5.out.trans (hb.mono HB5.out.size))
      clear hb
      go_wp2
      go_ret
      exact ⟨rfl, HB6.out⟩
end Go.Proofs.YtlmeekaemhghgaaDoor
