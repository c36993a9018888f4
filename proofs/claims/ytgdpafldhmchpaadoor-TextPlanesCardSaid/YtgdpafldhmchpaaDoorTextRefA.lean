/- Layer 9 (text): the document's own: contracts of Hex, sign, name, Index, n, nn, to, indexed, reg, pair, conds, sums, shifts. -/
import Derived.Test.YtgdpafldhmchpaaDoorTextDigs
import Derived.Test.YtgdpafldhmchpaaDoorTextName
import Derived.Test.YtgdpafldhmchpaaDoorMem
import Derived.Deep.RegionHeld3
namespace Go.Proofs.YtgdpafldhmchpaaDoor
open Go.RowKit
set_option linter.unusedVariables false
set_option linter.unusedSimpArgs false

set_option maxHeartbeats 1000000 in
theorem rHex_any (n : Int) (d : Nat) (R : List UInt8) (h0 : 0 ≤ n) (h1 : n ≤ 65535) (hd : d ≤ 8) (hR : rdig 16 d 8 n [] = R) (hl : R.length ≤ 8) (w : World) :
    Calls Tryd.prog 50 #[.int .i64 n, .int .i64 d] w fun e w' => e = .returned (.string ⟨(R ++ [104]).toArray⟩) ∧ Below w.heap.size w w' := by
  have hk := rdigits16_any n d h0 h1 hd
  rw [hR] at hk
  have hk := Lib.hid hk
  have hs := la_size R
  have HA := Lib.hid (bs_app R [104])
  clear hR
  have q1 : max (d : Int) 0 = (d : Int) := by omega
  have q2 : min (d : Int) 8 = (d : Int) := by omega
  have q3 : (0 : Int) ≤ (d : Int) := by omega
  go_enter Tryd.func50, Tryd.ntmps50
  go_wp2_with (first
    | (go_at_call 41; refine (hk.out _).mono ?_; rintro e w' ⟨rfl, hb⟩; have hsz := hb.size))
  go_ret
  exact ⟨ret_bs HA.out, (by repeat (first | exact Below.refl _ _ | assumption | refine bstep ?_ (by assumption) | refine Below.drew ?_ | refine Below.alloc ?_ (by first | (simp; done) | (simp; omega) | omega) _ | refine Below.setCell ?_ (by first | (simp; done) | (simp; omega) | omega) _))⟩
theorem rHex2_any (n : Int) (h0 : 0 ≤ n) (h1 : n ≤ 255) (w : World) :
    Calls Tryd.prog 50 #[.int .i64 n, .int .i64 2] w fun e w' => e = .returned (.string ⟨(hex2 n).toArray⟩) ∧ Below w.heap.size w w' :=
  rHex_any n 2 [dg (n / 16), dg (n % 16)] h0 (by omega) (by omega) (rdig2 n h0 h1) (by simp) w
theorem rHex4_any (n : Int) (h0 : 0 ≤ n) (h1 : n ≤ 65535) (w : World) :
    Calls Tryd.prog 50 #[.int .i64 n, .int .i64 4] w fun e w' => e = .returned (.string ⟨(hex4 n).toArray⟩) ∧ Below w.heap.size w w' :=
  rHex_any n 4 [dg (n / 4096), dg (n / 256 % 16), dg (n / 16 % 16), dg (n % 16)] h0 h1 (by omega) (rdig4 n h0 h1) (by simp) w
set_option maxHeartbeats 1000000 in
theorem rsign_any (n : Int) (h0 : -999 ≤ n) (h1 : n ≤ 999) (w : World) :
    Calls Tryd.prog 64 #[.int .i64 n] w fun e w' => e = .returned (.string ⟨(signL n).toArray⟩) ∧ Below w.heap.size w w' := by
  unfold signL
  by_cases c : n < 0
  · rw [if_pos c]
    have hk := rdigits10_any (-n) 1 (by omega) (by omega) (by omega)
    rw [rdig_dec (-n) (by omega) (by omega)] at hk
    have hk := Lib.hid hk
    have hl := dec3_length (-n)
    generalize dec3 (-n) = D at *
    have hs := la_size D
    have HA := Lib.hid (bs_app [45] D)
    go_enter Tryd.func64, Tryd.ntmps64
    go_wp2_with (first
      | (go_at_call 41; refine (hk.out _).mono ?_; rintro e w' ⟨rfl, hb⟩; have hsz := hb.size))
    go_ret
    exact ⟨ret_bs HA.out, (by repeat (first | exact Below.refl _ _ | assumption | refine bstep ?_ (by assumption) | refine Below.drew ?_ | refine Below.alloc ?_ (by first | (simp; done) | (simp; omega) | omega) _ | refine Below.setCell ?_ (by first | (simp; done) | (simp; omega) | omega) _))⟩
  · rw [if_neg c]
    have c' : 0 ≤ n := by omega
    have hk := rdigits10_any n 1 (by omega) (by omega) (by omega)
    rw [rdig_dec n (by omega) (by omega)] at hk
    have hk := Lib.hid hk
    have hl := dec3_length n
    generalize dec3 n = D at *
    have hs := la_size D
    have HA := Lib.hid (bs_app [43] D)
    clear c
    go_enter Tryd.func64, Tryd.ntmps64
    go_wp2_with (first
      | (go_at_call 41; refine (hk.out _).mono ?_; rintro e w' ⟨rfl, hb⟩; have hsz := hb.size))
    go_ret
    exact ⟨ret_bs HA.out, (by repeat (first | exact Below.refl _ _ | assumption | refine bstep ?_ (by assumption) | refine Below.drew ?_ | refine Below.alloc ?_ (by first | (simp; done) | (simp; omega) | omega) _ | refine Below.setCell ?_ (by first | (simp; done) | (simp; omega) | omega) _))⟩
theorem rname_any (p : Int) (w : World) :
    Calls Tryd.prog 49 #[.int .i64 p] w fun e w' => e = .returned (.string ⟨[105, UInt8.ofNat (ixC p)].toArray⟩) ∧ w = w' := by
  unfold ixC
  by_cases h3 : p = 3
  · subst h3
    go_enter Tryd.func49, Tryd.ntmps49
    go_wp2
    go_ret
    exact ⟨rfl, rfl⟩
  by_cases h5 : p = 5
  · subst h5
    go_enter Tryd.func49, Tryd.ntmps49
    go_wp2
    go_ret
    exact ⟨rfl, rfl⟩
  rw [if_neg (by omega)]
  have e3 : (p == 3) = false := by simpa using h3
  have e5 : (p == 5) = false := by simpa using h5
  clear h3 h5
  go_enter Tryd.func49, Tryd.ntmps49
  go_wp2
  go_ret
  exact ⟨rfl, rfl⟩
set_option maxHeartbeats 1000000 in
theorem rIndex_any (p d : Int) (hd : B8 d) (w : World) :
    Calls Tryd.prog 39 #[.int .i64 p, .int .u8 d] w fun e w' => e = .returned (.string ⟨(indexL p d).toArray⟩) ∧ Below w.heap.size w w' := by
  have hb := signedM_b d hd
  have k1 := Lib.hid (fun w => rname_any p w)
  have k2 := Lib.hid (fun w => rsigned_any d hd.1 hd.2 w)
  have k3 := Lib.hid (fun w => rsign_any (signedM d) (by omega) (by omega) w)
  have s2 := signL_length (signedM d)
  have s1 := la_size (signL (signedM d))
  unfold indexL
  generalize signL (signedM d) = G at *
  have s3 : (⟨#[105, UInt8.ofNat (ixC p)]⟩ : ByteArray).size = 2 := rfl
  go_enter Tryd.func39, Tryd.ntmps39
  go_wp2_with (first
    | (go_at_call 49; refine (k1.out _).mono ?_; rintro e w' ⟨rfl, rfl⟩)
    | (go_at_call 65; refine (k2.out _).mono ?_; rintro e w' ⟨rfl, rfl⟩)
    | (go_at_call 64; refine (k3.out _).mono ?_; rintro e w' ⟨rfl, hb⟩; have hsz := hb.size))
  go_ret
  refine ⟨ret_bs ?_, (by repeat (first | exact Below.refl _ _ | assumption | refine bstep ?_ (by assumption) | refine Below.drew ?_ | refine Below.alloc ?_ (by first | (simp; done) | (simp; omega) | omega) _ | refine Below.setCell ?_ (by first | (simp; done) | (simp; omega) | omega) _))⟩
  show (⟨[40].toArray⟩ ++ ⟨[105, UInt8.ofNat (ixC p)].toArray⟩ ++ ⟨G.toArray⟩ ++ ⟨[41].toArray⟩ : ByteArray) = _
  rw [bs_app, bs_app, bs_app]
  simp
end Go.Proofs.YtgdpafldhmchpaaDoor
