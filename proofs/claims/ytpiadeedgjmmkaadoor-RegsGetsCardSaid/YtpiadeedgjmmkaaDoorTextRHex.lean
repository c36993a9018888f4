/- Layer 9 (text): the document's own: contract of Hex. -/
import Derived.Test.YtpiadeedgjmmkaaDoorTextDigs
namespace Go.Proofs.YtpiadeedgjmmkaaDoor
open Go.RowKit
set_option linter.unusedVariables false
set_option linter.unusedSimpArgs false

set_option maxHeartbeats 1000000 in
theorem rHex_any (n : Int) (d : Nat) (R : List UInt8) (h0 : 0 ≤ n) (h1 : n ≤ 65535) (hd : d ≤ 8) (hR : rdig 16 d 8 n [] = R) (hl : R.length ≤ 8) (w : World) :
    Calls Tryd.prog 36 #[.int .i64 n, .int .i64 d] w fun e w' => e = .returned (.string ⟨(R ++ [104]).toArray⟩) ∧ Below w.heap.size w w' := by
  have hk := rdigits16_any n d h0 h1 hd
  rw [hR] at hk
  have hk := Lib.hid hk
  have hs := la_size' R
  have HA := Lib.hid (bs_app' R [104])
  clear hR
  have q1 : max (d : Int) 0 = (d : Int) := by omega
  have q2 : min (d : Int) 8 = (d : Int) := by omega
  have q3 : (0 : Int) ≤ (d : Int) := by omega
  go_enter Tryd.func36, Tryd.ntmps36
  go_wp2_with (first
    | (go_at_call 51; refine (hk.out _).mono ?_; rintro e w' ⟨rfl, hb⟩; have hsz := hb.size))
  go_ret
  exact ⟨ret_bs' HA.out, (by repeat (first | exact Below.refl _ _ | assumption | refine bstep ?_ (by assumption) | refine Below.drew ?_ | refine Below.alloc ?_ (by first | (simp; done) | (simp; omega) | omega) _ | refine Below.setCell ?_ (by first | (simp; done) | (simp; omega) | omega) _))⟩
theorem rHex2_any (n : Int) (h0 : 0 ≤ n) (h1 : n ≤ 255) (w : World) :
    Calls Tryd.prog 36 #[.int .i64 n, .int .i64 2] w fun e w' => e = .returned (.string ⟨(hex2 n).toArray⟩) ∧ Below w.heap.size w w' :=
  rHex_any n 2 [dg (n / 16), dg (n % 16)] h0 (by omega) (by omega) (rdig2 n h0 h1) (by simp) w
theorem rHex4_any (n : Int) (h0 : 0 ≤ n) (h1 : n ≤ 65535) (w : World) :
    Calls Tryd.prog 36 #[.int .i64 n, .int .i64 4] w fun e w' => e = .returned (.string ⟨(hex4 n).toArray⟩) ∧ Below w.heap.size w w' :=
  rHex_any n 4 [dg (n / 4096), dg (n / 256 % 16), dg (n / 16 % 16), dg (n % 16)] h0 h1 (by omega) (rdig4 n h0 h1) (by simp) w
end Go.Proofs.YtpiadeedgjmmkaaDoor
