/- Layer 10 (times): the document's examples, and the walks of the laws. -/
import Derived.Test.YtlmeekaemhghgaaDoorTimesAll
import Derived.Test.YtlmeekaemhghgaaDoorTimesTable
namespace Go.Proofs.YtlmeekaemhghgaaDoor
open Go.RowKit
set_option linter.unusedVariables false
set_option linter.unusedSimpArgs false

theorem ofM_ex1 : ofM 3 54 0 false = 19 := by decide +kernel
theorem ofM_ex2 : ofM 2 176 0 true = 21 := by decide +kernel
theorem tab_ex : unheldM ((205 : Nat) : Int) = 17 := by decide +kernel
theorem asks_ex1 : asksM 0 16 0 = true := by decide +kernel
theorem asks_ex2 : asksM 0 0 0 = false := by decide +kernel
theorem allS : Stops [0, 0] 2 := by
  refine ⟨fun j hj => ?_, rfl⟩
  obtain rfl | rfl : j = 0 ∨ j = 1 := by omega
  all_goals rfl
theorem allO : opsL [0, 0] 2 = [⟨0, 0, 0, 0, 1, 0⟩, ⟨0, 0, 0, 0, 1, 0⟩] := rfl
theorem allN : sumT (opsL [0, 0] 2) = 8 := by
  rw [allO]
  decide +kernel
theorem all_ex (W : World) (b : Nat) (hb : b = W.heap.size) (ht : TimesTabs W) : Calls Tryd.prog 13 #[.slice (some ⟨b, 0, none⟩) 2 2] (W.alloc (.cells #[.int .u8 0, .int .u8 0] 5)) fun e w' => e = .returned (.int .i64 8) ∧ Below W.heap.size W w' := by
  subst hb
  have h := timesAll_any (some ⟨W.heap.size, 0, none⟩) 2 [0, 0] (by decide) (by decide) (b8_list rfl) 2 allS (W.alloc (.cells (bvs [0, 0]).toArray 5)) ((bytes_new W _ _).more (by simp)) (ht.below ((Below.refl _ W).alloc (Nat.le_refl _) _))
  rw [allN] at h
  exact Calls.mono h (fun e w' ⟨he, hb⟩ => ⟨he, ((Below.refl _ W).alloc (Nat.le_refl _) _).trans (hb.mono (by simp))⟩)
set_option maxHeartbeats 4000000 in
theorem xawake_any (w : World) (ht : TimesTabs w) :
    Calls Tryd.prog 8 #[] w fun e w' => e = .returned (.bool true) ∧ Below w.heap.size w w' := by
  have K1 := Lib.hid (fun W (hW : Below w.heap.size w W) => show Calls Tryd.prog 9 #[opV 3 54 0 0 0 0, .bool false] W fun e w' => e = .returned (.int .i64 19) ∧ Below W.heap.size W w' by
    have h := timesOf_any 3 54 0 0 0 0 false ⟨by decide, by decide⟩ W (ht.below hW)
    rwa [ofM_ex1] at h)
  have K2 := Lib.hid (fun W (hW : Below w.heap.size w W) => show Calls Tryd.prog 9 #[opV 2 176 0 0 0 0, .bool true] W fun e w' => e = .returned (.int .i64 21) ∧ Below W.heap.size W w' by
    have h := timesOf_any 2 176 0 0 0 0 true ⟨by decide, by decide⟩ W (ht.below hW)
    rwa [ofM_ex2] at h)
  have K3 := Lib.hid (fun W (hW : Below w.heap.size w W) => table_any W (ht.below hW))
  have K4 := Lib.hid (fun W (hW : Below w.heap.size w W) b hb => all_ex W b hb (ht.below hW))
  have K5 := Lib.hid (fun W (hW : Below w.heap.size w W) => show Calls Tryd.prog 11 #[opV 0 16 0 0 0 0] W fun e w' => e = .returned (.bool true) ∧ Below W.heap.size W w' by
    have h := timesAsks_any 0 16 0 0 0 0 ⟨by decide, by decide⟩ W (ht.below hW)
    rwa [asks_ex1] at h)
  have K6 := Lib.hid (fun W (hW : Below w.heap.size w W) => show Calls Tryd.prog 11 #[opV 0 0 0 0 0 0] W fun e w' => e = .returned (.bool false) ∧ Below W.heap.size W w' by
    have h := timesAsks_any 0 0 0 0 0 0 ⟨by decide, by decide⟩ W (ht.below hW)
    rwa [asks_ex2] at h)
  have kx := fun W => show (Instr.index 31 tabV (.int .i64 205)).run Tryd.prog W = .ok (.int .i64 17) W by
    have h := tab_at 205 (by decide) W
    rwa [tab_ex] at h
  clear ht
  go_enter Tryd.func8, Tryd.ntmps8
  have HB0 := Lib.hid (Below.refl w.heap.size w)
  go_wp2_with fail
  refine (K1.out _ HB0.out).mono ?_
  rintro e w1 ⟨rfl, hb⟩
  have HB1 := Lib.hid (HB0.out.trans (hb.mono HB0.out.size))
  clear hb
  go_wp2_with fail
  refine (K2.out _ HB1.out).mono ?_
  rintro e w2 ⟨rfl, hb⟩
  have HB2 := Lib.hid (HB1.out.trans (hb.mono HB1.out.size))
  clear hb
  go_wp2_with fail
  refine (K3.out _ HB2.out).mono ?_
  rintro e w3 ⟨rfl, hb⟩
  have HB3 := Lib.hid (HB2.out.trans (hb.mono HB2.out.size))
  clear hb
  go_wp2_with fail
  refine (K4.out _ HB3.out _ (by simp)).mono ?_
  rintro e w4 ⟨rfl, hb⟩
  have HB4 := Lib.hid (HB3.out.trans (hb.mono HB3.out.size))
  clear hb
  go_wp2_with fail
  refine (K5.out _ HB4.out).mono ?_
  rintro e w5 ⟨rfl, hb⟩
  have HB5 := Lib.hid (HB4.out.trans (hb.mono HB4.out.size))
  clear hb
  go_wp2_with fail
  refine (K6.out _ HB5.out).mono ?_
  rintro e w6 ⟨rfl, hb⟩
  have HB6 := Lib.hid (HB5.out.trans (hb.mono HB5.out.size))
  clear hb
  go_wp2
  go_ret
  exact ⟨rfl, HB6.out⟩
set_option maxHeartbeats 4000000 in
theorem timesOf_walk (p c d m le s : Int) (t : Bool) (w : World) (ho : B8 c ∧ B8 d ∧ 0 ≤ m ∧ m ≤ 65535) (ht : TimesTabs w) :
    Calls Tryd.prog 3 #[opV p c d m le s, .bool t] w fun e w' => e = .returned (.bool true) ∧ Below w.heap.size w w' := by
  have hc := ho.1
  have ka := Lib.hid (fun W (hW : Below w.heap.size w W) => xawake_any W (ht.below hW))
  have k1 := Lib.hid (fun W (hW : Below w.heap.size w W) => timesOf_any p c d m le s t hc W (ht.below hW))
  have k2 := Lib.hid (fun W => rTimesOf_any p c d m le s t hc W)
  have k3 := Lib.hid (fun W (hW : Below w.heap.size w W) => timesAsks_any p c d m le s hc W (ht.below hW))
  have k4 := Lib.hid (fun W => rTimesAsks_any p c d m le s hc W)
  clear ht ho hc
  generalize ofM p c s t = R at *
  generalize asksM p c s = A at *
  have HB0 := Lib.hid ((Below.refl w.heap.size w).alloc (Nat.le_refl _) (.cells #[.int .i64 p, .int .u8 c, .int .u8 d, .int .u16 m, .int .i64 le, .int .i64 s] 24))
  have hr := Row.new w 24 #[.int .i64 p, .int .u8 c, .int .u8 d, .int .u16 m, .int .i64 le, .int .i64 s]
  go_enter Tryd.func3, Tryd.ntmps3
  go_wp2_with fail
  refine (ka.out _ HB0.out).mono ?_
  rintro e w1 ⟨rfl, hb⟩
  have HB1 := Lib.hid (HB0.out.trans (hb.mono HB0.out.size))
  have hs := row6c (hr.below hb hr.lt)
  clear hb hr
  go_upto_region 4 with (fail)
  go_region_held3 (fun w' => w'.cell? ⟨w.heap.size, 0, none⟩ = some (.int .i64 p) ∧ w'.cell? ⟨w.heap.size, 1, none⟩ = some (.int .u8 c) ∧ w'.cell? ⟨w.heap.size, 2, none⟩ = some (.int .u8 d) ∧ w'.cell? ⟨w.heap.size, 3, none⟩ = some (.int .u16 m) ∧ w'.cell? ⟨w.heap.size, 4, none⟩ = some (.int .i64 le) ∧ w'.cell? ⟨w.heap.size, 5, none⟩ = some (.int .i64 s))
    (first | with_reducible assumption | exact hs | with_reducible exact keep6r hb (by with_reducible assumption))
    (first
    | (go_at_call 9; refine (k1.out _ HB1.out.drew).mono ?_; rintro e w3 ⟨rfl, hb⟩; have HB3 := Lib.hid (HB1.out.trans ((Below.drew (Below.refl _ w1)).trans hb |>.mono HB1.out.size)))
    | (go_at_call 10; refine (k2.out _).mono ?_; rintro e w4 ⟨rfl, hb⟩; have HB4 := Lib.hid (HB3.out.trans (hb.mono HB3.out.size)))
    | (go_at_call 11; refine (k3.out _ HB4.out).mono ?_; rintro e w5 ⟨rfl, hb⟩; have HB5 := Lib.hid (HB4.out.trans (hb.mono HB4.out.size)))
    | (go_at_call 12; refine (k4.out _).mono ?_; rintro e w6 ⟨rfl, hb⟩; have HB6 := Lib.hid (HB5.out.trans (hb.mono HB5.out.size))))
  clear hs
  go_wp2
  go_ret
  exact ⟨rfl, HB6.out⟩
end Go.Proofs.YtlmeekaemhghgaaDoor
