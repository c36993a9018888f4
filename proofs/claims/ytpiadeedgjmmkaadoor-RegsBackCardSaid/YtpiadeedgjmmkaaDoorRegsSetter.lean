/- Layer 11 (regs): the closures that set a half of a pair: contracts. -/
import Derived.Test.YtpiadeedgjmmkaaDoorRegsGet
import Derived.Deep.RegionHeld3
import Derived.StillTailTactics
namespace Go.Proofs.YtpiadeedgjmmkaaDoor
open Go.RowKit
set_option linter.unusedVariables false
set_option linter.unusedSimpArgs false

set_option maxRecDepth 20000 in
set_option maxHeartbeats 4000000 in
theorem setter_hi (q : Option Addr) (w : World) : Calls Tryd.prog 38 #[.pointer q, .bool true] w fun e w' => e = .returned (.func (.func 52) #[] #[.pointer (some ⟨w.heap.size, 0, none⟩)]) ∧ w' = w.alloc (.cells #[.pointer q] 44) := by
  go_enter Tryd.func38, Tryd.ntmps38
  go_wp2
  go_ret
  exact ⟨rfl, rfl⟩
set_option maxRecDepth 20000 in
set_option maxHeartbeats 4000000 in
theorem setter_lo (q : Option Addr) (w : World) : Calls Tryd.prog 38 #[.pointer q, .bool false] w fun e w' => e = .returned (.func (.func 54) #[] #[.pointer (some ⟨w.heap.size, 0, none⟩)]) ∧ w' = w.alloc (.cells #[.pointer q] 44) := by
  go_enter Tryd.func38, Tryd.ntmps38
  go_wp2
  go_ret
  exact ⟨rfl, rfl⟩
set_option maxRecDepth 20000 in
set_option maxHeartbeats 4000000 in
theorem setHi_any (B b o : Nat) (x v : Int) (hx : W16 x) (hv : B8 v) (w : World) (h0 : w.cell? ⟨B, 0, none⟩ = some (.pointer (some ⟨b, o, none⟩))) (h1 : w.cell? ⟨b, o, none⟩ = some (.int .u16 x)) (h2 : w.frozen? ⟨b, o, none⟩ = false) :
    Calls Tryd.prog 52 #[.int .u8 v, .pointer (some ⟨B, 0, none⟩)] w fun e w' => e = .returned (.tuple #[]) ∧ w' = (w.setCell ⟨b, o, none⟩ (.int .u16 (256 * v + x % 256))).drew := by
  have k1 := Lib.hid (fun w => lo_any x hx.1 hx.2 w)
  have k2 := Lib.hid (fun w => word_any v (x % 256) hv.1 hv.2 (by omega) (by omega) w)
  clear hx hv
  go_enter Tryd.func52, Tryd.ntmps52
  go_still_tail 8, (by kernel_rfl)
  still_call ((k1.out _).mono fun e w' h => ⟨h.1, h.2.symm⟩)
  repeat still_step
  still_call ((k2.out _).mono fun e w' h => ⟨h.1, h.2.symm⟩)
  repeat still_step
  refine wpStill_nil ?_
  change wpList _ _ _ _ _ w.drew
  go_wp2
  go_end0
  exact ⟨rfl, rfl⟩
set_option maxRecDepth 20000 in
set_option maxHeartbeats 4000000 in
theorem setLo_any (B b o : Nat) (x v : Int) (hx : W16 x) (hv : B8 v) (w : World) (h0 : w.cell? ⟨B, 0, none⟩ = some (.pointer (some ⟨b, o, none⟩))) (h1 : w.cell? ⟨b, o, none⟩ = some (.int .u16 x)) (h2 : w.frozen? ⟨b, o, none⟩ = false) :
    Calls Tryd.prog 54 #[.int .u8 v, .pointer (some ⟨B, 0, none⟩)] w fun e w' => e = .returned (.tuple #[]) ∧ w' = (w.setCell ⟨b, o, none⟩ (.int .u16 (256 * (x / 256) + v))).drew := by
  have k1 := Lib.hid (fun w => hi_any x hx.1 hx.2 w)
  have k2 := Lib.hid (fun w => word_any (x / 256) v (by have := hx.1; omega) (by have := hx.2; omega) hv.1 hv.2 w)
  clear hx hv
  go_enter Tryd.func54, Tryd.ntmps54
  go_still_tail 8, (by kernel_rfl)
  still_call ((k1.out _).mono fun e w' h => ⟨h.1, h.2.symm⟩)
  repeat still_step
  still_call ((k2.out _).mono fun e w' h => ⟨h.1, h.2.symm⟩)
  repeat still_step
  refine wpStill_nil ?_
  change wpList _ _ _ _ _ w.drew
  go_wp2
  go_end0
  exact ⟨rfl, rfl⟩
end Go.Proofs.YtpiadeedgjmmkaaDoor
