/- Layer 3 (sum): contracts of when, carries, join. -/
import Derived.Test.YtedbjockmlhnbaaSumMath
namespace Go.Proofs.Ytedbjockmlhnbaa
open Go.RowKit
set_option linter.unusedVariables false
set_option linter.unusedSimpArgs false

/-- a value, or nothing -/
def whenM (h : Bool) (v : Int) : Int := if h then v else 0
set_option maxHeartbeats 400000 in
theorem when_any (h : Bool) (v : Int) (h0 : 0 ≤ v) (h1 : v ≤ 255) (w : World) :
    Calls Try.prog 42 #[.bool h, .int .u8 v] w fun e w' => e = .returned (.int .u8 (whenM h v)) ∧ w = w' := by
  cases h
  all_goals
    go_enter Try.func42, Try.ntmps42
    go_wp2
    go_ret
    exact ⟨rfl, rfl⟩
theorem pow_fin : ∀ k : Fin 8, (2 : Int) ^ k.val % 256 = 2 ^ k.val ∧ (1 : Int) ≤ 2 ^ k.val ∧ (2 : Int) ^ k.val ≤ 128 ∧ (2 ^ k.val * 2 : Int) % 256 = 2 ^ (k.val + 1) % 256 := by decide +kernel
theorem pow_facts (k : Nat) (hk : k < 8) : (2 : Int) ^ k % 256 = 2 ^ k ∧ (1 : Int) ≤ 2 ^ k ∧ (2 : Int) ^ k ≤ 128 ∧ (2 ^ k * 2 : Int) % 256 = 2 ^ (k + 1) % 256 := pow_fin ⟨k, hk⟩
theorem or_and_bit (a b : Int) (ha : B8 a) (hb : B8 b) (k : Nat) (hk : k < 8) : (bits .and .u8 (bits .or .u8 a b) (2 ^ k) != 0) = (isM a k || isM b k) := by
  have h := or_byte a b ha.1 ha.2 hb.1 hb.2
  have e := and_bit (bits .or .u8 a b) (k : Int) h.1 h.2 (by omega) (by omega)
  rw [Int.toNat_natCast, (pow_facts k hk).1] at e
  rw [e, isM_or a b k hk ha.1 ha.2 hb.1 hb.2]
theorem and_and_bit (a b : Int) (ha : B8 a) (hb : B8 b) (k : Nat) (hk : k < 8) : (bits .and .u8 (bits .and .u8 a b) (2 ^ k) != 0) = (isM a k && isM b k) := by
  have h := and_byte a b ha.1 ha.2 hb.1 hb.2
  have e := and_bit (bits .and .u8 a b) (k : Int) h.1 h.2 (by omega) (by omega)
  rw [Int.toNat_natCast, (pow_facts k hk).1] at e
  rw [e, isM_and a b k hk ha.1 ha.2 hb.1 hb.2]
theorem or_pow (x : Int) (hx : B8 x) (k : Nat) (hk : k < 8) : bits .or .u8 x (2 ^ k) = withM x k true := by
  have e := or_bit x (k : Int) hx.1 hx.2 (by omega) (by omega)
  rwa [Int.toNat_natCast, (pow_facts k hk).1] at e
theorem bit_down (B : Int) (h1 : 1 ≤ B) (h2 : B ≤ 128) : (if B * 2 % 256 = 0 then 0 else 256 - (B * 2 % 256).toNat) < if B = 0 then 0 else 256 - B.toNat := by
  rw [if_neg (show ¬ B = 0 by omega)]
  by_cases h : B * 2 % 256 = 0
  · rw [if_pos h]; omega
  · rw [if_neg h]; omega
set_option maxHeartbeats 4000000 in
theorem carries_any (a b : Int) (c : Bool) (ha : B8 a) (hb : B8 b) (w : World) :
    Calls Try.prog 43 #[.int .u8 a, .int .u8 b, .bool c] w fun e w' => e = .returned (.int .u8 (outM a b c 8)) ∧ w = w' := by
  go_enter Try.func43, Try.ntmps43
  go_wp2
  go_loop [2, 7, 8] (fun cc o i => ∃ k : Nat, k ≤ 8 ∧ cc = .bool (cK a b c k) ∧ o = .int .u8 (outM a b c k) ∧ i = .int .u8 (2 ^ k % 256)) (fun _ _ i => if intOf i = 0 then 0 else 256 - (intOf i).toNat)
  case atStart => exact ⟨0, by omega, by rw [cK_zero], rfl, rfl⟩
  case round =>
    obtain ⟨k, hk, rfl, rfl, rfl⟩ := hrel
    by_cases hlt : k < 8
    · obtain ⟨p0, p1, p2, p3⟩ := pow_facts k hlt
      have hs := cK_step a b c k hlt
      have o0 := or_and_bit a b ha hb k hlt
      have o1 := and_and_bit a b ha hb k hlt
      have o2 := Lib.hid (or_pow _ (outM_byte a b c k) k hlt)
      have e2 : outM a b c (k + 1) = if cK a b c (k + 1) then withM (outM a b c k) k true else outM a b c k := rfl
      rw [p0]
      have P0 := Lib.hid p0
      have P3 := Lib.hid p3
      clear p0 p3
      generalize hB : (2 : Int) ^ k = B at *
      have nz : (B != 0) = true := by simp; omega
      cases hc : cK a b c k
      · rw [hc] at hs
        simp only [Bool.false_eq_true, if_false, if_true] at hs
        rw [← hs] at o1
        cases hd : cK a b c (k + 1)
        · rw [hd] at o1 e2
          have HC := Lib.hid hc
          have HD := Lib.hid hd
          have E2 := Lib.hid e2
          clear hs o0 hc hd e2
          go_wp2
          refine ⟨⟨k + 1, by omega, by rw [HD.out], ?_, by rw [P3.out]⟩, ?_⟩
          · rw [E2.out]; rfl
          · exact bit_down B p1 p2
        · rw [hd] at o1 e2
          have HC := Lib.hid hc
          have HD := Lib.hid hd
          have E2 := Lib.hid e2
          clear hs o0 hc hd e2
          go_wp2
          refine ⟨⟨k + 1, by omega, by rw [HD.out], ?_, by rw [P3.out]⟩, ?_⟩
          · rw [E2.out, o2.out]; rfl
          · exact bit_down B p1 p2
      · rw [hc] at hs
        simp only [Bool.false_eq_true, if_false, if_true] at hs
        rw [← hs] at o0
        cases hd : cK a b c (k + 1)
        · rw [hd] at o0 e2
          have HC := Lib.hid hc
          have HD := Lib.hid hd
          have E2 := Lib.hid e2
          clear hs o1 hc hd e2
          go_wp2
          refine ⟨⟨k + 1, by omega, by rw [HD.out], ?_, by rw [P3.out]⟩, ?_⟩
          · rw [E2.out]; rfl
          · exact bit_down B p1 p2
        · rw [hd] at o0 e2
          have HC := Lib.hid hc
          have HD := Lib.hid hd
          have E2 := Lib.hid e2
          clear hs o1 hc hd e2
          go_wp2
          refine ⟨⟨k + 1, by omega, by rw [HD.out], ?_, by rw [P3.out]⟩, ?_⟩
          · rw [E2.out, o2.out]; rfl
          · exact bit_down B p1 p2
    · obtain rfl : k = 8 := by omega
      go_wp2
      go_ret
      exact ⟨rfl, rfl⟩

/-- the parts' flags, one after another -/
def joinUpto (zs : List Int) : Nat → Int
  | 0 => 0
  | k + 1 => bits .or .u8 (joinUpto zs k) (zs.getD k 0)
set_option maxHeartbeats 4000000 in
theorem join_any (b off len cap : Nat) (zs : List Int) (w : World) (hz : len ≤ zs.length) (hbig : len ≤ 100) (hc : ∀ j, j < zs.length → w.cell? ⟨b, off + j, none⟩ = some (.int .u8 (zs.getD j 0))) :
    Calls Try.prog 33 #[.slice (some ⟨b, off, none⟩) len cap] w fun e w' => e = .returned (.int .u8 (joinUpto zs len)) ∧ w = w' := by
  go_enter Try.func33, Try.ntmps33
  go_wp2
  go_loop [3, 8] (fun t i => ∃ k : Nat, k ≤ len ∧ i = .int .i64 k ∧ t = .int .u8 (joinUpto zs k)) (fun _ i => len - (intOf i).toNat)
  case atStart => exact ⟨0, Nat.zero_le _, rfl, rfl⟩
  case round =>
    obtain ⟨k, hk, rfl, rfl⟩ := hrel
    by_cases hlt : k < len
    · have hk0 : (0 : Int) ≤ (k : Int) := by omega
      have hk1 : (k : Int) < (len : Int) := by omega
      have hcell := hc k (by omega)
      have hc := Lib.hid hc
      go_wp2
      go_round
      case rel => exact ⟨k + 1, by omega, by go_num, rfl⟩
      case measure => simp [intOf]; omega
    · obtain rfl : k = len := by omega
      go_wp2
      go_ret
      exact ⟨rfl, rfl⟩
end Go.Proofs.Ytedbjockmlhnbaa
