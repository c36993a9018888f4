/- Layer 9 (text): the document's digits: contract of digits. -/
import Derived.Test.YtpiadeedgjmmkaaDoorTextTabs
import Derived.Handy
import Derived.Lib.Hide
import Derived.LoopN
namespace Go.Proofs.YtpiadeedgjmmkaaDoor
open Go.RowKit
set_option linter.unusedVariables false
set_option linter.unusedSimpArgs false

/-- digits of a base, laid ahead of those that stand -/
def rdig (b : Int) (least : Nat) : Nat → Int → List UInt8 → List UInt8
  | 0, n, s => s
  | f + 1, n, s => if 0 < n ∨ s.length < least ∨ s = [] then rdig b least f (n / b) (dg (n % b) :: s) else s
theorem dig_cut : ∀ k : Fin 16, (⟨#[48, 49, 50, 51, 52, 53, 54, 55, 56, 57, 97, 98, 99, 100, 101, 102]⟩ : ByteArray).extract k.val (k.val + 1) = ⟨#[dg (k.val : Int)]⟩ := by decide +kernel
theorem dig_cuts (k : Int) (h0 : 0 ≤ k) (h1 : k < 16) : (⟨#[48, 49, 50, 51, 52, 53, 54, 55, 56, 57, 97, 98, 99, 100, 101, 102]⟩ : ByteArray).extract k.toNat (k.toNat + 1) = ⟨#[dg k]⟩ := by
  have := dig_cut ⟨k.toNat, by omega⟩
  rwa [show (((⟨k.toNat, by omega⟩ : Fin 16).val : Nat) : Int) = k by show (k.toNat : Int) = k; omega] at this
def szOf : Value → Nat
  | .string s => s.size
  | _ => 0
theorem rdig_step (b : Int) (least g : Nat) (N : Int) (L : List UInt8) (h : 0 < N ∨ L.length < least ∨ L = []) : rdig b least (g + 1) N L = rdig b least g (N / b) (dg (N % b) :: L) := by
  show (if _ then _ else _) = _
  rw [if_pos h]
theorem rdig_stop (b : Int) (least f : Nat) (N : Int) (L : List UInt8) (h : ¬ (0 < N ∨ L.length < least ∨ L = [])) : rdig b least f N L = L := by
  cases f with
  | zero => rfl
  | succ f =>
    show (if _ then _ else _) = _
    rw [if_neg h]
theorem la_size' (l : List UInt8) : (⟨l.toArray⟩ : ByteArray).size = l.length := by show l.toArray.size = _; simp
theorem ret_bs' {a b : ByteArray} (h : a = b) : Ending.returned (.string a) = .returned (.string b) := by rw [h]
theorem pow_down (N : Int) (g : Nat) (h : N < 16 ^ (g + 1)) : N / 16 < 16 ^ g := by
  have : (16 : Int) ^ (g + 1) = 16 ^ g * 16 := Int.pow_succ ..
  omega
theorem pow_down10 (N : Int) (g : Nat) (h : N < 10 ^ (g + 1)) : N / 10 < 10 ^ g := by
  have : (10 : Int) ^ (g + 1) = 10 ^ g * 10 := Int.pow_succ ..
  omega
theorem bs_app' (a b : List UInt8) : (⟨a.toArray⟩ : ByteArray) ++ ⟨b.toArray⟩ = ⟨(a ++ b).toArray⟩ := by
  apply ByteArray.ext
  simp
set_option maxHeartbeats 4000000 in
theorem rdigits16_any (n : Int) (least : Nat) (h0 : 0 ≤ n) (h1 : n ≤ 65535) (hl : least ≤ 8) (w : World) :
    Calls Tryd.prog 51 #[.int .i64 n, .int .i64 16, .int .i64 least] w fun e w' => e = .returned (.string ⟨(rdig 16 least 8 n []).toArray⟩) ∧ Below w.heap.size w w' := by
  have h2 : n < 16 ^ 8 := by omega
  go_enter Tryd.func51, Tryd.ntmps51
  go_wp2
  go_loopw [0, 8] (fun i s wr => ∃ (N : Int) (L : List UInt8) (f : Nat), i = .int .i64 N ∧ s = .string ⟨L.toArray⟩ ∧ 0 ≤ N ∧ N ≤ 65535 ∧ N < 16 ^ f ∧ L.length + f = 8 ∧ (f = 0 → L ≠ []) ∧ rdig 16 least f N L = rdig 16 least 8 n [] ∧ Below w.heap.size w wr) (fun i s _ => 8 - szOf s)
  case atStart => exact ⟨n, [], 8, rfl, rfl, h0, h1, h2, rfl, by omega, rfl, Below.refl _ _⟩
  case round =>
    obtain ⟨N, L, f, rfl, rfl, a0, a1, a2, a3, a4, a5, aB⟩ := hrel
    have hs := la_size' L
    have HE := Lib.hid a5
    have HB := Lib.hid aB
    clear a5 aB h2
    by_cases hc : 0 < N ∨ L.length < least ∨ L = []
    · obtain ⟨g, rfl⟩ : ∃ g, f = g + 1 := by
        refine ⟨f - 1, ?_⟩
        have : f ≠ 0 := by
          intro hf
          subst hf
          rcases hc with h | h | h
          · simp at a2; omega
          · omega
          · exact a4 rfl h
        omega
      have HP := Lib.hid (pow_down N g a2)
      have HS := Lib.hid (rdig_step 16 least g N L hc)
      clear a2 a4
      have q0 : 0 ≤ N % 16 := by omega
      have q1 : N % 16 < 16 := by omega
      have hx := dig_cuts (N % 16) q0 q1
      have q2 : (N % 16 + 1).toNat = (N % 16).toNat + 1 := by omega
      have q3 : IntKind.i64.wrap (N % 16 + 1) = N % 16 + 1 := by rw [IntKind.wrap_i64]; omega
      have q4 : N % 16 ≤ N % 16 + 1 := by omega
      have q5 : N % 16 + 1 ≤ 16 := by omega
      have r0 : 0 ≤ N / 16 := by omega
      have r1 : N / 16 ≤ 65535 := by omega
      have HA := Lib.hid (bs_app' [dg (N % 16)] L)
      have HL : Hid (∀ wr', Below wr.heap.size wr wr' → Below w.heap.size w wr') := Lib.hid fun wr' k => HB.out.trans (k.mono HB.out.size)
      by_cases c1 : 0 < N
      · clear hc
        go_wp2
        go_region
        go_wp2
        go_roundw
        case rel => exact ⟨N / 16, dg (N % 16) :: L, g, rfl, by rw [HA.out]; rfl, r0, r1, HP.out, by simp; omega, fun _ => by simp, HS.out.symm.trans HE.out, HL.out _ (by repeat (first | exact Below.refl _ _ | assumption | refine bstep ?_ (by assumption) | refine Below.drew ?_ | refine Below.alloc ?_ (by first | (simp; done) | (simp; omega) | omega) _ | refine Below.setCell ?_ (by first | (simp; done) | (simp; omega) | omega) _))⟩
        case measure => show 8 - ((⟨#[dg (N % 16)]⟩ : ByteArray) ++ ⟨L.toArray⟩).size < 8 - (⟨L.toArray⟩ : ByteArray).size; rw [HA.out, hs, la_size']; simp; omega
      · have c1 : N ≤ 0 := by omega
        by_cases c2 : L.length < least
        · clear hc
          go_wp2
          go_region
          go_wp2
          go_roundw
          case rel => exact ⟨N / 16, dg (N % 16) :: L, g, rfl, by rw [HA.out]; rfl, r0, r1, HP.out, by simp; omega, fun _ => by simp, HS.out.symm.trans HE.out, HL.out _ (by repeat (first | exact Below.refl _ _ | assumption | refine bstep ?_ (by assumption) | refine Below.drew ?_ | refine Below.alloc ?_ (by first | (simp; done) | (simp; omega) | omega) _ | refine Below.setCell ?_ (by first | (simp; done) | (simp; omega) | omega) _))⟩
          case measure => show 8 - ((⟨#[dg (N % 16)]⟩ : ByteArray) ++ ⟨L.toArray⟩).size < 8 - (⟨L.toArray⟩ : ByteArray).size; rw [HA.out, hs, la_size']; simp; omega
        · obtain rfl : L = [] := by
            rcases hc with h | h | h
            · omega
            · exact absurd h c2
            · exact h
          clear hc
          have c2 : least ≤ 0 := by simpa using c2
          go_wp2
          go_region
          go_wp2
          go_roundw
          case rel => exact ⟨N / 16, dg (N % 16) :: [], g, rfl, by show Value.string ((⟨#[dg (N % 16)]⟩ : ByteArray) ++ ⟨([] : List UInt8).toArray⟩) = _; rw [HA.out]; rfl, r0, r1, HP.out, by simp at a3 ⊢; omega, fun _ => by simp, HS.out.symm.trans HE.out, HL.out _ (by repeat (first | exact Below.refl _ _ | assumption | refine bstep ?_ (by assumption) | refine Below.drew ?_ | refine Below.alloc ?_ (by first | (simp; done) | (simp; omega) | omega) _ | refine Below.setCell ?_ (by first | (simp; done) | (simp; omega) | omega) _))⟩
          case measure => show 8 - ((⟨#[dg (N % 16)]⟩ : ByteArray) ++ ⟨([] : List UInt8).toArray⟩).size < 8 - (⟨([] : List UInt8).toArray⟩ : ByteArray).size; rw [HA.out, hs, la_size']; simp
    · have HQ := Lib.hid (rdig_stop 16 least f N L hc)
      simp only [not_or] at hc
      obtain ⟨c1, c2, c3⟩ := hc
      have c1 : N ≤ 0 := by omega
      clear a2 a4
      have c4 : least ≤ L.length := by omega
      clear c2
      have c5 : decide (L.length < least) = false := by simp; omega
      have c6 : L.isEmpty = false := by cases L with | nil => exact absurd rfl c3 | cons => rfl
      clear c3
      go_wp2
      go_ret
      exact ⟨ret_bs' (by rw [← HE.out, HQ.out]), HB.out⟩
set_option maxHeartbeats 4000000 in
theorem rdigits10_any (n : Int) (least : Nat) (h0 : 0 ≤ n) (h1 : n ≤ 65535) (hl : least ≤ 8) (w : World) :
    Calls Tryd.prog 51 #[.int .i64 n, .int .i64 10, .int .i64 least] w fun e w' => e = .returned (.string ⟨(rdig 10 least 8 n []).toArray⟩) ∧ Below w.heap.size w w' := by
  have h2 : n < 10 ^ 8 := by omega
  go_enter Tryd.func51, Tryd.ntmps51
  go_wp2
  go_loopw [0, 8] (fun i s wr => ∃ (N : Int) (L : List UInt8) (f : Nat), i = .int .i64 N ∧ s = .string ⟨L.toArray⟩ ∧ 0 ≤ N ∧ N ≤ 65535 ∧ N < 10 ^ f ∧ L.length + f = 8 ∧ (f = 0 → L ≠ []) ∧ rdig 10 least f N L = rdig 10 least 8 n [] ∧ Below w.heap.size w wr) (fun i s _ => 8 - szOf s)
  case atStart => exact ⟨n, [], 8, rfl, rfl, h0, h1, h2, rfl, by omega, rfl, Below.refl _ _⟩
  case round =>
    obtain ⟨N, L, f, rfl, rfl, a0, a1, a2, a3, a4, a5, aB⟩ := hrel
    have hs := la_size' L
    have HE := Lib.hid a5
    have HB := Lib.hid aB
    clear a5 aB h2
    by_cases hc : 0 < N ∨ L.length < least ∨ L = []
    · obtain ⟨g, rfl⟩ : ∃ g, f = g + 1 := by
        refine ⟨f - 1, ?_⟩
        have : f ≠ 0 := by
          intro hf
          subst hf
          rcases hc with h | h | h
          · simp at a2; omega
          · omega
          · exact a4 rfl h
        omega
      have HP := Lib.hid (pow_down10 N g a2)
      have HS := Lib.hid (rdig_step 10 least g N L hc)
      clear a2 a4
      have q0 : 0 ≤ N % 10 := by omega
      have q1 : N % 10 < 10 := by omega
      have hx := dig_cuts (N % 10) q0 (by omega)
      have q2 : (N % 10 + 1).toNat = (N % 10).toNat + 1 := by omega
      have q3 : IntKind.i64.wrap (N % 10 + 1) = N % 10 + 1 := by rw [IntKind.wrap_i64]; omega
      have q4 : N % 10 ≤ N % 10 + 1 := by omega
      have q5 : N % 10 + 1 ≤ 16 := by omega
      have r0 : 0 ≤ N / 10 := by omega
      have r1 : N / 10 ≤ 65535 := by omega
      have HA := Lib.hid (bs_app' [dg (N % 10)] L)
      have HL : Hid (∀ wr', Below wr.heap.size wr wr' → Below w.heap.size w wr') := Lib.hid fun wr' k => HB.out.trans (k.mono HB.out.size)
      by_cases c1 : 0 < N
      · clear hc
        go_wp2
        go_region
        go_wp2
        go_roundw
        case rel => exact ⟨N / 10, dg (N % 10) :: L, g, rfl, by rw [HA.out]; rfl, r0, r1, HP.out, by simp; omega, fun _ => by simp, HS.out.symm.trans HE.out, HL.out _ (by repeat (first | exact Below.refl _ _ | assumption | refine bstep ?_ (by assumption) | refine Below.drew ?_ | refine Below.alloc ?_ (by first | (simp; done) | (simp; omega) | omega) _ | refine Below.setCell ?_ (by first | (simp; done) | (simp; omega) | omega) _))⟩
        case measure => show 8 - ((⟨#[dg (N % 10)]⟩ : ByteArray) ++ ⟨L.toArray⟩).size < 8 - (⟨L.toArray⟩ : ByteArray).size; rw [HA.out, hs, la_size']; simp; omega
      · have c1 : N ≤ 0 := by omega
        by_cases c2 : L.length < least
        · clear hc
          go_wp2
          go_region
          go_wp2
          go_roundw
          case rel => exact ⟨N / 10, dg (N % 10) :: L, g, rfl, by rw [HA.out]; rfl, r0, r1, HP.out, by simp; omega, fun _ => by simp, HS.out.symm.trans HE.out, HL.out _ (by repeat (first | exact Below.refl _ _ | assumption | refine bstep ?_ (by assumption) | refine Below.drew ?_ | refine Below.alloc ?_ (by first | (simp; done) | (simp; omega) | omega) _ | refine Below.setCell ?_ (by first | (simp; done) | (simp; omega) | omega) _))⟩
          case measure => show 8 - ((⟨#[dg (N % 10)]⟩ : ByteArray) ++ ⟨L.toArray⟩).size < 8 - (⟨L.toArray⟩ : ByteArray).size; rw [HA.out, hs, la_size']; simp; omega
        · obtain rfl : L = [] := by
            rcases hc with h | h | h
            · omega
            · exact absurd h c2
            · exact h
          clear hc
          have c2 : least ≤ 0 := by simpa using c2
          go_wp2
          go_region
          go_wp2
          go_roundw
          case rel => exact ⟨N / 10, dg (N % 10) :: [], g, rfl, by show Value.string ((⟨#[dg (N % 10)]⟩ : ByteArray) ++ ⟨([] : List UInt8).toArray⟩) = _; rw [HA.out]; rfl, r0, r1, HP.out, by simp at a3 ⊢; omega, fun _ => by simp, HS.out.symm.trans HE.out, HL.out _ (by repeat (first | exact Below.refl _ _ | assumption | refine bstep ?_ (by assumption) | refine Below.drew ?_ | refine Below.alloc ?_ (by first | (simp; done) | (simp; omega) | omega) _ | refine Below.setCell ?_ (by first | (simp; done) | (simp; omega) | omega) _))⟩
          case measure => show 8 - ((⟨#[dg (N % 10)]⟩ : ByteArray) ++ ⟨([] : List UInt8).toArray⟩).size < 8 - (⟨([] : List UInt8).toArray⟩ : ByteArray).size; rw [HA.out, hs, la_size']; simp
    · have HQ := Lib.hid (rdig_stop 10 least f N L hc)
      simp only [not_or] at hc
      obtain ⟨c1, c2, c3⟩ := hc
      have c1 : N ≤ 0 := by omega
      clear a2 a4
      have c4 : least ≤ L.length := by omega
      clear c2
      have c5 : decide (L.length < least) = false := by simp; omega
      have c6 : L.isEmpty = false := by cases L with | nil => exact absurd rfl c3 | cons => rfl
      clear c3
      go_wp2
      go_ret
      exact ⟨ret_bs' (by rw [← HE.out, HQ.out]), HB.out⟩
theorem rdig2 (n : Int) (h0 : 0 ≤ n) (h1 : n ≤ 255) : rdig 16 2 8 n [] = [dg (n / 16), dg (n % 16)] := by
  rw [rdig_step _ _ _ _ _ (.inr (.inr rfl)), rdig_step _ _ _ _ _ (.inr (.inl (by simp))), rdig_stop _ _ _ _ _ (by simp; omega), show n / 16 % 16 = n / 16 by omega]
theorem rdig4 (n : Int) (h0 : 0 ≤ n) (h1 : n ≤ 65535) : rdig 16 4 8 n [] = [dg (n / 4096), dg (n / 256 % 16), dg (n / 16 % 16), dg (n % 16)] := by
  rw [rdig_step _ _ _ _ _ (.inr (.inr rfl)), rdig_step _ _ _ _ _ (.inr (.inl (by simp))), rdig_step _ _ _ _ _ (.inr (.inl (by simp))), rdig_step _ _ _ _ _ (.inr (.inl (by simp))), rdig_stop _ _ _ _ _ (by simp; omega), show n / 16 / 16 / 16 % 16 = n / 4096 by omega, show n / 16 / 16 % 16 = n / 256 % 16 by omega]
theorem rdig_dec (n : Int) (h0 : 0 ≤ n) (h1 : n ≤ 999) : rdig 10 1 8 n [] = dec3 n := by
  unfold dec3
  rw [rdig_step _ _ _ _ _ (.inr (.inr rfl))]
  by_cases c1 : n < 10
  · rw [if_pos c1, rdig_stop _ _ _ _ _ (by simp; omega), show n % 10 = n by omega]
  rw [if_neg c1, rdig_step _ _ _ _ _ (.inl (by omega))]
  by_cases c2 : n < 100
  · rw [if_pos c2, rdig_stop _ _ _ _ _ (by simp; omega), show n / 10 % 10 = n / 10 by omega]
  rw [if_neg c2, rdig_step _ _ _ _ _ (.inl (by omega)), rdig_stop _ _ _ _ _ (by simp; omega), show n / 10 / 10 % 10 = n / 100 by omega]
end Go.Proofs.YtpiadeedgjmmkaaDoor
