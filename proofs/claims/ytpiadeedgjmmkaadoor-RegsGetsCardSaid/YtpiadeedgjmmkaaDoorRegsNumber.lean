/- Layer 11 (regs): the document's own numbers in digits: contract of Number. -/
import Derived.Test.YtpiadeedgjmmkaaDoorRegsText
import Derived.Test.YtpiadeedgjmmkaaDoorTextDigs
namespace Go.Proofs.YtpiadeedgjmmkaaDoor
open Go.RowKit
set_option linter.unusedVariables false
set_option linter.unusedSimpArgs false

theorem ten_cut : ∀ k : Fin 10, (⟨#[48, 49, 50, 51, 52, 53, 54, 55, 56, 57]⟩ : ByteArray).extract k.val (k.val + 1) = ⟨#[UInt8.ofNat (48 + k.val)]⟩ := by decide +kernel
/-- a digit of ten -/
def dten (k : Int) : UInt8 := UInt8.ofNat (48 + k.toNat)
theorem ten_cuts (k : Int) (h0 : 0 ≤ k) (h1 : k < 10) : (⟨#[48, 49, 50, 51, 52, 53, 54, 55, 56, 57]⟩ : ByteArray).extract k.toNat (k.toNat + 1) = ⟨#[dten k]⟩ :=
  ten_cut ⟨k.toNat, by omega⟩
/-- digits laid ahead of those that stand -/
theorem dec_step (u : Nat) (L : List UInt8) (h : ¬ u < 10) : Lib.decDigits u ++ L = Lib.decDigits (u / 10) ++ (UInt8.ofNat (48 + u % 10) :: L) := by
  rw [Lib.decDigits, dif_neg h, List.append_assoc]
  rfl
theorem dec_last (u : Nat) (L : List UInt8) (h : u < 10) : Lib.decDigits u ++ L = UInt8.ofNat (48 + u) :: L := by
  rw [Lib.decDigits, dif_pos h]
  rfl
theorem pow_up10 (N : Int) (f : Nat) (h0 : 0 < N) (h : N < 10 ^ f) : 0 < f := by
  rcases f with _ | f
  · simp at h; omega
  · omega
set_option maxHeartbeats 4000000 in
theorem rnum_pos (n : Int) (h0 : 0 ≤ n) (h1 : n ≤ 9223372036854775807) (w : World) :
    Calls Tryd.prog 37 #[.int .i64 n] w fun e w' => e = .returned (.string (numB n)) ∧ Below w.heap.size w w' := by
  have h2 : n < 10 ^ 19 := by omega
  have hI : Lib.itoa n = Lib.decDigits n.toNat ++ [] := by
    unfold Lib.itoa
    rw [if_neg (by omega), List.append_nil]
  have HI := Lib.hid hI
  clear hI
  go_enter Tryd.func37, Tryd.ntmps37
  go_wp2
  go_loopw [0, 3] (fun i s wr => ∃ (N : Int) (L : List UInt8) (f : Nat), i = .int .i64 N ∧ s = .string ⟨L.toArray⟩ ∧ 0 ≤ N ∧ N ≤ 9223372036854775807 ∧ N < 10 ^ f ∧ L.length + f = 19 ∧ 0 < f ∧ Lib.decDigits N.toNat ++ L = Lib.itoa n ∧ Below w.heap.size w wr) (fun i s _ => 19 - szOf s)
  case atStart => exact ⟨n, [], 19, rfl, rfl, h0, h1, h2, rfl, by omega, HI.out.symm, Below.refl _ _⟩
  case round =>
    obtain ⟨N, L, f, rfl, rfl, a0, a1, a2, a3, a4, a5, aB⟩ := hrel
    have hs := la_size' L
    have HE := Lib.hid a5
    have HB := Lib.hid aB
    clear a5 aB h2
    obtain ⟨g, rfl⟩ : ∃ g, f = g + 1 := ⟨f - 1, by omega⟩
    have HP := Lib.hid (pow_down10 N g a2)
    have q0 : 0 ≤ N % 10 := by omega
    have q1 : N % 10 < 10 := by omega
    have hx := ten_cuts (N % 10) q0 q1
    have q2 : (N % 10 + 1).toNat = (N % 10).toNat + 1 := by omega
    have q3 : IntKind.i64.wrap (N % 10 + 1) = N % 10 + 1 := by rw [IntKind.wrap_i64]; omega
    have q4 : N % 10 ≤ N % 10 + 1 := by omega
    have q5 : N % 10 + 1 ≤ 10 := by omega
    have r0 : 0 ≤ N / 10 := by omega
    have r1 : N / 10 ≤ 9223372036854775807 := by omega
    have hm : (N % 10).toNat = N.toNat % 10 := by omega
    have hd : (N / 10).toNat = N.toNat / 10 := by omega
    have HA := Lib.hid (bs_app' [dten (N % 10)] L)
    have hM := Lib.hid (show dten (N % 10) = UInt8.ofNat (48 + N.toNat % 10) by unfold dten; rw [hm])
    have hD := Lib.hid hd
    clear a2 a4 hm hd
    by_cases c : N < 10
    · have e0 : (N / 10 == 0) = true := by simp; omega
      have HL := Lib.hid (dec_last N.toNat L (by omega))
      have hN := Lib.hid (show N.toNat % 10 = N.toNat by omega)
      go_wp2
      go_ret
      refine ⟨ret_bs' ?_, HB.out⟩
      show (⟨[dten (N % 10)].toArray⟩ ++ ⟨L.toArray⟩ : ByteArray) = numB n
      rw [HA.out, hM.out, hN.out]
      show _ = (⟨(Lib.itoa n).toArray⟩ : ByteArray)
      rw [← HE.out, HL.out]
      rfl
    · have e0 : (N / 10 == 0) = false := by simp; omega
      have HL := Lib.hid (dec_step N.toNat L (by omega))
      have hpos : 0 < N / 10 := by omega
      have HG := Lib.hid (pow_up10 (N / 10) g hpos HP.out)
      clear hpos
      go_wp2
      go_roundw
      case rel => exact ⟨N / 10, dten (N % 10) :: L, g, rfl, by rw [HA.out]; rfl, r0, r1, HP.out, by simp; omega, HG.out, by rw [hD.out, hM.out, ← HE.out, HL.out], HB.out⟩
      case measure => show 19 - ((⟨#[dten (N % 10)]⟩ : ByteArray) ++ ⟨L.toArray⟩).size < 19 - (⟨L.toArray⟩ : ByteArray).size; rw [HA.out, hs, la_size']; simp; omega
theorem itoa_least : Lib.itoa (-9223372036854775808) = [45, 57, 50, 50, 51, 51, 55, 50, 48, 51, 54, 56, 53, 52, 55, 55, 53, 56, 48, 56] := by
  unfold Lib.itoa
  rw [if_pos (by decide), show (-9223372036854775808 : Int).natAbs = 9223372036854775808 by decide]
  simp [Lib.decDigits]
theorem itoa_less (n : Int) (h : n < 0) : Lib.itoa n = 45 :: Lib.itoa (-n) := by
  unfold Lib.itoa
  rw [if_pos h, if_neg (by omega)]
  congr 2
  omega
set_option maxHeartbeats 4000000 in
theorem rnum_any (n : Int) (h : -9223372036854775808 ≤ n ∧ n ≤ 9223372036854775807) (w : World) :
    Calls Tryd.prog 37 #[.int .i64 n] w fun e w' => e = .returned (.string (numB n)) ∧ Below w.heap.size w w' := by
  by_cases h0 : 0 ≤ n
  · exact rnum_pos n h0 h.2 w
  by_cases hm : n = -9223372036854775808
  · have e : numB n = ⟨#[45, 57, 50, 50, 51, 51, 55, 50, 48, 51, 54, 56, 53, 52, 55, 55, 53, 56, 48, 56]⟩ := by
      unfold numB
      rw [hm, itoa_least]
    have HE := Lib.hid e
    have hw : wrap64 (-n) = n := by rw [hm]; decide +kernel
    have hneg : n < 0 := by omega
    clear e hm h h0
    go_enter Tryd.func37, Tryd.ntmps37
    go_wp2
    go_ret
    exact ⟨by rw [HE.out]; rfl, Below.refl _ _⟩
  · have hk := Lib.hid (rnum_pos (-n) (by omega) (by omega))
    have hl := itoa_less n (by omega)
    have hs := numB_size (-n) ⟨by omega, by omega⟩
    have he : (n == -n) = false := by simp; omega
    have hw : wrap64 (-n) = -n := IntWalk.wrap64_in _ ⟨by omega, by omega⟩
    have HL := Lib.hid hl
    have hneg : n < 0 := by omega
    have hlo : -9223372036854775807 ≤ n := by omega
    clear hl h0 hm h
    go_enter Tryd.func37, Tryd.ntmps37
    go_wp2_with (first
      | (go_at_call 37; refine (hk.out _).mono ?_; rintro e w' ⟨rfl, hb⟩; have hsz := hb.size))
    go_ret
    refine ⟨ret_bs' ?_, (by repeat (first | exact Below.refl _ _ | assumption | refine bstep ?_ (by assumption) | refine Below.drew ?_ | refine Below.alloc ?_ (by first | (simp; done) | (simp; omega) | omega) _ | refine Below.setCell ?_ (by first | (simp; done) | (simp; omega) | omega) _))⟩
    unfold numB
    rw [HL.out]
    exact bs_app' [45] _
end Go.Proofs.YtpiadeedgjmmkaaDoor
