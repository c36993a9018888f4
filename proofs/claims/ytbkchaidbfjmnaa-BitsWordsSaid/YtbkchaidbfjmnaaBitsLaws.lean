/- Layer 1 (bits): the walks of the four laws: each returns true and writes nothing that was there. -/
import Derived.Test.YtbkchaidbfjmnaaBitsRef
import Derived.Test.YtbkchaidbfjmnaaBitsIter
namespace Go.Proofs.Ytbkchaidbfjmnaa
open Go.RowKit
set_option linter.unusedVariables false

theorem bstep {a b c : World} (h : Below a.heap.size a b) (k : Below b.heap.size b c) : Below a.heap.size a c := h.trans (k.mono h.size)

theorem awake_consts : turnM 129 1 = 3 ∧ signedM 255 = -1 ∧ isM 4 2 = true ∧ withM 4 0 true = 5 ∧ evenM 4 = false ∧ firstM 12 = 2 := by decide +kernel

set_option maxHeartbeats 1000000 in
theorem awake_any (w : World) :
    Calls Try.prog 7 #[] w fun e w' => e = .returned (.bool true) ∧ Below w.heap.size w w' := by
  obtain ⟨c1, c2, c3, c4, c5, c6⟩ := awake_consts
  go_enter Try.func7, Try.ntmps7
  go_wp2_with fail
  refine (word_any _ _ (by decide) (by decide) (by decide) (by decide) _).mono ?_
  rintro e w' ⟨rfl, rfl⟩
  go_wp2_with fail
  refine (signed_any _ (by decide) (by decide) _).mono ?_
  rintro e w' ⟨rfl, rfl⟩
  go_wp2_with fail
  refine (turn_any _ _ (by decide) (by decide) _).mono ?_
  rintro e w1 ⟨rfl, hb1⟩
  go_wp2_with fail
  refine (lo_any _ (by decide) (by decide) _).mono ?_
  rintro e w' ⟨rfl, rfl⟩
  go_wp2_with fail
  refine (hi_any _ (by decide) (by decide) _).mono ?_
  rintro e w' ⟨rfl, rfl⟩
  go_wp2_with fail
  refine (is_any _ _ (by decide) (by decide) _).mono ?_
  rintro e w' ⟨rfl, rfl⟩
  go_wp2_with fail
  refine (with_any _ _ _ (by decide) (by decide) _).mono ?_
  rintro e w' ⟨rfl, rfl⟩
  go_wp2_with fail
  refine (even_any _ (by decide) (by decide) _).mono ?_
  rintro e w2 ⟨rfl, hb2⟩
  go_wp2_with fail
  refine (first_any _ (by decide) (by decide) _).mono ?_
  rintro e w3 ⟨rfl, hb3⟩
  go_wp2
  go_ret
  exact ⟨rfl, (hb1.trans (hb2.mono hb1.size)).trans (hb3.mono (Nat.le_trans hb1.size hb2.size))⟩

set_option maxHeartbeats 1000000 in
theorem bitsWords_walk (a0 a1 a2 : Int) (h0 : 0 ≤ a0) (h0' : a0 ≤ 65535) (h1 : 0 ≤ a1) (h1' : a1 ≤ 255) (h2 : 0 ≤ a2) (h2' : a2 ≤ 255) (w : World) :
    Calls Try.prog 3 #[.int .u16 a0, .int .u8 a1, .int .u8 a2] w fun e w' => e = .returned (.bool true) ∧ Below w.heap.size w w' := by
  go_enter Try.func3, Try.ntmps3
  go_wp2_with fail
  refine (awake_any _).mono ?_
  rintro e w1 ⟨rfl, hb1⟩
  go_wp2_with (first
    | (go_at_call 8; refine (lo_any _ h0 h0' _).mono ?_; rintro e w' ⟨rfl, rfl⟩)
    | (go_at_call 9; refine (rlo_any _ h0 h0' _).mono ?_; rintro e w' ⟨rfl, rfl⟩)
    | (go_at_call 10; refine (hi_any _ h0 h0' _).mono ?_; rintro e w' ⟨rfl, rfl⟩)
    | (go_at_call 11; refine (rhi_any _ h0 h0' _).mono ?_; rintro e w' ⟨rfl, rfl⟩)
    | (go_at_call 12; refine (word_any _ _ h1 h1' h2 h2' _).mono ?_; rintro e w' ⟨rfl, rfl⟩)
    | (go_at_call 13; refine (rword_any _ _ h1 h1' h2 h2' _).mono ?_; rintro e w' ⟨rfl, rfl⟩))
  go_ret
  exact ⟨rfl, hb1⟩

set_option maxHeartbeats 1000000 in
theorem bitsSet_walk (a0 a1 : Int) (a2 : Bool) (h0 : 0 ≤ a0) (h0' : a0 ≤ 255) (w : World) :
    Calls Try.prog 4 #[.int .u8 a0, .int .i64 a1, .bool a2] w fun e w' => e = .returned (.bool true) ∧ Below w.heap.size w w' := by
  go_enter Try.func4, Try.ntmps4
  go_wp2_with fail
  refine (awake_any _).mono ?_
  rintro e w1 ⟨rfl, hb1⟩
  go_wp2_with (first
    | (go_at_call 14; refine (is_any _ _ h0 h0' _).mono ?_; rintro e w' ⟨rfl, rfl⟩)
    | (go_at_call 15; refine (ris_any _ _ h0 h0' _).mono ?_; rintro e w' ⟨rfl, rfl⟩)
    | (go_at_call 16; refine (with_any _ _ _ h0 h0' _).mono ?_; rintro e w' ⟨rfl, rfl⟩)
    | (go_at_call 17; refine (rwith_any _ _ _ h0 h0' _).mono ?_; rintro e w' ⟨rfl, rfl⟩))
  refine (first_any _ h0 h0' _).mono ?_
  rintro e w2 ⟨rfl, hb2⟩
  go_wp2_with (go_at_call 19; refine (rfirst_any _ h0 h0' _).mono ?_; rintro e w' ⟨rfl, rfl⟩)
  go_ret
  exact ⟨rfl, hb1.trans (hb2.mono hb1.size)⟩

set_option maxHeartbeats 1000000 in
theorem bitsTurns_walk (a0 a1 : Int) (h0 : 0 ≤ a0) (h0' : a0 ≤ 255) (w : World) :
    Calls Try.prog 5 #[.int .u8 a0, .int .i64 a1] w fun e w' => e = .returned (.bool true) ∧ Below w.heap.size w w' := by
  go_enter Try.func5, Try.ntmps5
  go_wp2_with fail
  refine (awake_any _).mono ?_
  rintro e w1 ⟨rfl, hb1⟩
  go_wp2_with fail
  refine (turn_any _ _ h0 h0' _).mono ?_
  rintro e w2 ⟨rfl, hb2⟩
  go_wp2_with (first
    | (go_at_call 21; refine (rturn_any _ _ h0 h0' _).mono ?_; rintro e w' ⟨rfl, rfl⟩)
    | (go_at_call 22; refine (signed_any _ h0 h0' _).mono ?_; rintro e w' ⟨rfl, rfl⟩)
    | (go_at_call 23; refine (rsigned_any _ h0 h0' _).mono ?_; rintro e w' ⟨rfl, rfl⟩))
  refine (even_any _ h0 h0' _).mono ?_
  rintro e w3 ⟨rfl, hb3⟩
  go_wp2_with (go_at_call 25; refine (reven_any _ h0 h0' _).mono ?_; rintro e w' ⟨rfl, rfl⟩)
  go_ret
  exact ⟨rfl, (hb1.trans (hb2.mono hb1.size)).trans (hb3.mono (Nat.le_trans hb1.size hb2.size))⟩

theorem and1023_i64 (y : Int) : bits BinOp.and IntKind.i64 y 1023 = y % 1024 := by
  have e : (BitVec.ofInt 64 y &&& BitVec.ofInt 64 1023).toNat = (y % 1024).toNat := by
    rw [BitVec.toNat_and, show (BitVec.ofInt 64 1023).toNat = 2 ^ 10 - 1 by decide, Nat.and_two_pow_sub_one_eq_mod, BitVec.toNat_ofInt]
    omega
  show IntKind.i64.wrap ((BitVec.ofInt 64 y &&& BitVec.ofInt 64 1023).toNat : Int) = _
  rw [e, IntKind.wrap_i64]
  omega
theorem set_fin : ∀ (x : Fin 256) (y : Fin 8), isM (withM (x.val : Int) (y.val : Int) true) (y.val : Int) = true ∧ isM (withM (x.val : Int) (y.val : Int) false) (y.val : Int) = false ∧
    withM (withM (x.val : Int) (y.val : Int) true) (y.val : Int) false = withM (x.val : Int) (y.val : Int) false ∧ withM (x.val : Int) (y.val : Int) true - withM (x.val : Int) (y.val : Int) false = turnM 1 (y.val : Int) := by decide +kernel
theorem set_all (b n : Int) (h0 : 0 ≤ b) (h1 : b ≤ 255) (h2 : 0 ≤ n) (h3 : n < 8) : isM (withM b n true) n = true ∧ isM (withM b n false) n = false ∧ withM (withM b n true) n false = withM b n false ∧ withM b n true - withM b n false = turnM 1 n :=
  bit_all (P := fun n => isM (withM b n true) n = true ∧ isM (withM b n false) n = false ∧ withM (withM b n true) n false = withM b n false ∧ withM b n true - withM b n false = turnM 1 n)
    (fun y => byte_all (P := fun b => isM (withM b y.val true) y.val = true ∧ isM (withM b y.val false) y.val = false ∧ withM (withM b y.val true) y.val false = withM b y.val false ∧ withM b y.val true - withM b y.val false = turnM 1 y.val) (fun x => set_fin x y) b h0 h1) n h2 h3
theorem back_fin : ∀ (x : Fin 256) (y : Fin 8), turnM (turnM (x.val : Int) (y.val : Int)) ((8 - (y.val : Int)) % 8) = (x.val : Int) ∧ turnM (x.val : Int) 8 = (x.val : Int) ∧ evenM (turnM (x.val : Int) (y.val : Int)) = evenM (x.val : Int) ∧ signedM (x.val : Int) % 256 = (x.val : Int) := by decide +kernel
theorem turnM_mod (b y : Int) : turnM b y = turnM b (y % 8) := turn_mod b y 8
theorem back_all (b k : Int) (h0 : 0 ≤ b) (h1 : b ≤ 255) : turnM (turnM b k) (-k) = b ∧ turnM b 8 = b ∧ evenM (turnM b k) = evenM b ∧ signedM b % 256 = b := by
  have h := bit_all (P := fun n => turnM (turnM b n) ((8 - n) % 8) = b ∧ turnM b 8 = b ∧ evenM (turnM b n) = evenM b ∧ signedM b % 256 = b)
    (fun y => byte_all (P := fun b => turnM (turnM b y.val) ((8 - (y.val : Int)) % 8) = b ∧ turnM b 8 = b ∧ evenM (turnM b y.val) = evenM b ∧ signedM b % 256 = b) (fun x => back_fin x y) b h0 h1) (k % 8) (by omega) (by omega)
  rw [← turnM_mod b k, show (8 - k % 8) % 8 = (-k) % 8 by omega, ← turnM_mod] at h
  exact h

set_option maxHeartbeats 2000000 in
theorem bitsBack_walk (a0 a1 n : Int) (h0 : 0 ≤ a0) (h0' : a0 ≤ 65535) (w : World) :
    Calls Try.prog 6 #[.int .u16 a0, .int .i64 a1, .int .i64 n] w fun e w' => e = .returned (.bool true) ∧ Below w.heap.size w w' := by
  have hk := and1023_i64 a1
  have k0 : 0 ≤ a1 % 1024 := by omega
  have k1 : a1 % 1024 < 1024 := by omega
  generalize a1 % 1024 = k at hk k0 k1
  have b0 : 0 ≤ a0 % 256 := by omega
  have b1 : a0 % 256 ≤ 255 := by omega
  have hw : ((256 * (a0 / 256) + a0 % 256) == a0) = true := by simp; omega
  have g0 : 0 ≤ a0 / 256 := by omega
  have g1 : a0 / 256 ≤ 255 := by omega
  obtain ⟨b, hb⟩ : ∃ b, a0 % 256 = b := ⟨_, rfl⟩
  rw [hb] at b0 b1 hw
  obtain ⟨f5, f6, f7, f8⟩ := back_all b k b0 b1
  have ht := turnM_byte b k b0 b1
  have hs := withM_byte b n true b0 b1
  have ho := withM_byte b n false b0 b1
  by_cases hn : 0 ≤ n ∧ n < 8
  · obtain ⟨n0, n1⟩ := hn
    obtain ⟨f1, f2, f3, f4⟩ := set_all b n b0 b1 n0 n1
    have hu := turnM_byte 1 n (by decide) (by decide)
    have hd : withM b n false ≤ withM b n true := by omega
    go_enter Try.func6, Try.ntmps6
    go_wp2_with fail
    refine (awake_any _).mono ?_
    rintro e w1 ⟨rfl, hb1⟩
    go_wp2_with (first
      | (go_at_call 8; refine (lo_any _ h0 h0' _).mono ?_; rintro e w' ⟨rfl, rfl⟩))
    refine (turn_any _ _ b0 b1 _).mono ?_
    rintro e w2 ⟨rfl, hb2⟩
    go_wp2_with fail
    refine (with_any _ _ _ b0 b1 _).mono ?_
    rintro e w' ⟨rfl, rfl⟩
    go_wp2_with fail
    refine (with_any _ _ _ b0 b1 _).mono ?_
    rintro e w' ⟨rfl, rfl⟩
    go_wp2_with fail
    refine (is_any _ _ hs.1 hs.2 _).mono ?_
    rintro e w' ⟨rfl, rfl⟩
    go_wp2_with fail
    refine (is_any _ _ ho.1 ho.2 _).mono ?_
    rintro e w' ⟨rfl, rfl⟩
    go_wp2_with fail
    refine (with_any _ _ _ hs.1 hs.2 _).mono ?_
    rintro e w' ⟨rfl, rfl⟩
    go_wp2_with fail
    refine (turn_any _ _ (by decide) (by decide) _).mono ?_
    rintro e w3 ⟨rfl, hb3⟩
    go_wp2_with fail
    refine (hi_any _ h0 h0' _).mono ?_
    rintro e w' ⟨rfl, rfl⟩
    go_wp2_with fail
    refine (lo_any _ h0 h0' _).mono ?_
    rintro e w' ⟨rfl, rfl⟩
    go_wp2_with fail
    refine (word_any _ _ g0 g1 b0 b1 _).mono ?_
    rintro e w' ⟨rfl, rfl⟩
    go_wp2_with fail
    refine (turn_any _ _ ht.1 ht.2 _).mono ?_
    rintro e w4 ⟨rfl, hb4⟩
    go_wp2_with fail
    refine (turn_any _ _ b0 b1 _).mono ?_
    rintro e w5 ⟨rfl, hb5⟩
    go_wp2_with fail
    refine (even_any _ ht.1 ht.2 _).mono ?_
    rintro e w6 ⟨rfl, hb6⟩
    go_wp2_with fail
    refine (even_any _ b0 b1 _).mono ?_
    rintro e w7 ⟨rfl, hb7⟩
    go_wp2_with fail
    refine (signed_any _ b0 b1 _).mono ?_
    rintro e w' ⟨rfl, rfl⟩
    go_wp2
    go_ret
    exact ⟨rfl, bstep hb1 (bstep hb2 (bstep hb3 (bstep hb4 (bstep hb5 (bstep hb6 hb7)))))⟩
  · have n0 : n < 0 ∨ 8 ≤ n := by omega
    clear hn
    rcases n0 with n0 | n0
    all_goals
      go_enter Try.func6, Try.ntmps6
      go_wp2_with fail
      refine (awake_any _).mono ?_
      rintro e w1 ⟨rfl, hb1⟩
      go_wp2_with (first
        | (go_at_call 8; refine (lo_any _ h0 h0' _).mono ?_; rintro e w' ⟨rfl, rfl⟩))
      refine (turn_any _ _ b0 b1 _).mono ?_
      rintro e w2 ⟨rfl, hb2⟩
      go_wp2_with fail
      refine (with_any _ _ _ b0 b1 _).mono ?_
      rintro e w' ⟨rfl, rfl⟩
      go_wp2_with fail
      refine (with_any _ _ _ b0 b1 _).mono ?_
      rintro e w' ⟨rfl, rfl⟩
      go_wp2_with fail
      refine (hi_any _ h0 h0' _).mono ?_
      rintro e w' ⟨rfl, rfl⟩
      go_wp2_with fail
      refine (lo_any _ h0 h0' _).mono ?_
      rintro e w' ⟨rfl, rfl⟩
      go_wp2_with fail
      refine (word_any _ _ g0 g1 b0 b1 _).mono ?_
      rintro e w' ⟨rfl, rfl⟩
      go_wp2_with fail
      refine (turn_any _ _ ht.1 ht.2 _).mono ?_
      rintro e w4 ⟨rfl, hb4⟩
      go_wp2_with fail
      refine (turn_any _ _ b0 b1 _).mono ?_
      rintro e w5 ⟨rfl, hb5⟩
      go_wp2_with fail
      refine (even_any _ ht.1 ht.2 _).mono ?_
      rintro e w6 ⟨rfl, hb6⟩
      go_wp2_with fail
      refine (even_any _ b0 b1 _).mono ?_
      rintro e w7 ⟨rfl, hb7⟩
      go_wp2_with fail
      refine (signed_any _ b0 b1 _).mono ?_
      rintro e w' ⟨rfl, rfl⟩
      go_wp2
      go_ret
      exact ⟨rfl, bstep hb1 (bstep hb2 (bstep hb4 (bstep hb5 (bstep hb6 hb7))))⟩

end Go.Proofs.Ytbkchaidbfjmnaa
