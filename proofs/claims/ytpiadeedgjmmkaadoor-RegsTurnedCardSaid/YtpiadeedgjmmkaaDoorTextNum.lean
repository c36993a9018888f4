/- Layer 9 (text): numbers in digits: contracts of FormatUint (base 16), Itoa, Repeat, Hex, index, signed, Index. -/
import Derived.Test.YtpiadeedgjmmkaaDoorTextTabs
import Derived.Test.YtpiadeedgjmmkaaDoorShelf
import Derived.Handy
import Derived.LoopN
import Derived.Lib.Hide
import Derived.Lib.SlBytesRow
import Derived.Laws.BitsAllLaws
namespace Go.Proofs.YtpiadeedgjmmkaaDoor
open Go.RowKit
set_option linter.unusedVariables false
set_option linter.unusedSimpArgs false

theorem tz_any (w : World) (h : w.cell? ⟨3, 15, none⟩ = some (.int .u8 4)) :
    Calls Tryd.prog 78 #[.int .u64 16] w fun e w' => e = .returned (.int .i64 4) ∧ w = w' := by
  have k1 : bits BinOp.and IntKind.u64 16 (IntKind.u64.wrap (-16)) = 16 := by decide +kernel
  go_enter Tryd.func78, Tryd.ntmps78
  go_wp2
  go_ret
  exact ⟨rfl, rfl⟩
theorem pw_any (w : World) :
    Calls Tryd.prog 77 #[.int .i64 16] w fun e w' => e = .returned (.bool true) ∧ w = w' := by
  have k1 : (bits BinOp.and IntKind.i64 16 15 == 0) = true := by decide +kernel
  go_enter Tryd.func77, Tryd.ntmps77
  go_wp2
  go_ret
  exact ⟨by first | rfl | rw [k1], rfl⟩
/-- the library's digits -/
def allDigits : ByteArray := ⟨#[48, 49, 50, 51, 52, 53, 54, 55, 56, 57, 97, 98, 99, 100, 101, 102, 103, 104, 105, 106, 107, 108, 109, 110, 111, 112, 113, 114, 115, 116, 117, 118, 119, 120, 121, 122]⟩
theorem dg_at_fin : ∀ x : Fin 16, allDigits.data[x.val]? = some (dg (x.val : Int)) := by decide +kernel
theorem run_dg (q : IntKind) (k : Int) (h0 : 0 ≤ k) (h1 : k < 16) (W : World) : (Instr.index 9 (.string ⟨#[48, 49, 50, 51, 52, 53, 54, 55, 56, 57, 97, 98, 99, 100, 101, 102, 103, 104, 105, 106, 107, 108, 109, 110, 111, 112, 113, 114, 115, 116, 117, 118, 119, 120, 121, 122]⟩) (.int q k)).run Tryd.prog W = .ok (.int .u8 ((dg k).toNat : Int)) W := by
  rw [run_index_string (h := Tryd.underlying9), dif_pos ⟨h0, by show k < ((36 : Nat) : Int); omega⟩]
  have := dg_at_fin ⟨k.toNat, by omega⟩
  rw [show (((⟨k.toNat, by omega⟩ : Fin 16).val : Nat) : Int) = k by show (k.toNat : Int) = k; omega] at this
  have hb : k.toNat < allDigits.data.size := by show k.toNat < 36; omega
  rw [Array.getElem?_eq_getElem hb] at this
  rw [← Option.some.inj this]
  rfl
/-- the end of a row of bytes that a call has made, as a string -/
theorem tail_conv (w : World) (cs : Array Value) (t : TypeId) (i : Nat) (l : List UInt8) (n cap : Nat) (hn : l.length = n) (h : ∀ (j : Nat) (hj : j < l.length), cs[i + j]? = some (.int .u8 ((l[j]'hj).toNat : Int))) :
    (convert 65 9 (.slice (some ⟨w.heap.size, i, none⟩) n cap)).run Tryd.prog (w.alloc (.cells cs t)) = .ok (.string ⟨l.toArray⟩) (w.alloc (.cells cs t)) := by
  subst hn
  refine run_convert_bytes_back (P := Tryd.prog) (w.alloc (.cells cs t)) 65 9 5 ⟨w.heap.size, i, none⟩ cap l Tryd.underlying65 Tryd.underlying5 Tryd.underlying9 (fun j hj => ?_)
  have e : (⟨w.heap.size, i, none⟩ : Addr).add j = ⟨w.heap.size, i + j, none⟩ := by unfold Addr.add; split <;> simp_all
  rw [e, ← h j hj]
  have e2 : (w.alloc (.cells cs t)).heap[w.heap.size]? = some (.cells cs t (0, 0)) := by show (w.heap.push _)[w.heap.size]? = _; simp
  simp only [World.cell?, e2]
  rfl
theorem z65_size : Tryd.zeroCells97.size = 65 := by kernel_rfl
/-- digits of 16, no more than are wanted, below 65536 -/
def hexU (u : Int) : List UInt8 := if u < 16 then [dg u] else if u < 256 then [dg (u / 16), dg (u % 16)] else if u < 4096 then [dg (u / 256), dg (u / 16 % 16), dg (u % 16)] else [dg (u / 4096), dg (u / 256 % 16), dg (u / 16 % 16), dg (u % 16)]
theorem and15 (u : Int) (h0 : 0 ≤ u) : bits BinOp.and IntKind.u64 u 15 = u % 16 := by
  have e : (BitVec.ofInt 64 u &&& BitVec.ofInt 64 15).toNat = (u % 16).toNat := by
    rw [BitVec.toNat_and, show (BitVec.ofInt 64 15).toNat = 2 ^ 4 - 1 by decide, Nat.and_two_pow_sub_one_eq_mod, BitVec.toNat_ofInt]
    omega
  show IntKind.u64.wrap ((BitVec.ofInt 64 u &&& BitVec.ofInt 64 15).toNat : Int) = _
  rw [e, IntKind.wrap_u64]
  omega
set_option maxRecDepth 20000 in
set_option maxHeartbeats 2000000 in
theorem fb1_any (u : Int) (h0 : 0 ≤ u) (h1 : u < 16) (w : World) (h : w.cell? ⟨3, 15, none⟩ = some (.int .u8 4)) :
    Calls Tryd.prog 68 #[.slice none 0 0, .int .u64 u, .int .i64 16, .bool false, .bool false] w fun e w' => e = .returned (.tuple #[.slice none 0 0, .string ⟨[dg u].toArray⟩]) ∧ Below w.heap.size w w' := by
  have k1 := run_dg .u64 u h0 h1
  have hc := fun o => cell_under w o h
  have hv := tail_conv w (Tryd.zeroCells97.setIfInBounds 64 (.int .u8 ((dg u).toNat : Int))) 97 64 [dg u] 1 1 rfl (by
    intro j hj
    obtain rfl : j = 0 := by simpa using hj
    simp [Array.getElem?_setIfInBounds, z65_size])
  go_enter Tryd.func68, Tryd.ntmps68
  go_wp2_with (first
    | (go_at_call 77; refine (pw_any _).mono ?_; rintro e w' ⟨rfl, rfl⟩)
    | (go_at_call 78; refine (tz_any _ (hc _)).mono ?_; rintro e w' ⟨rfl, rfl⟩))
  refine wp_loop_rounds 1 ?_
  rw [rounds_succ]
  go_wp2
  go_ret2
  exact ⟨rfl, (by repeat (first | exact Below.refl _ _ | assumption | refine bstep ?_ (by assumption) | refine Below.drew ?_ | refine Below.alloc ?_ (by first | (simp; done) | (simp; omega) | omega) _ | refine Below.setCell ?_ (by first | (simp; done) | (simp; omega) | omega) _))⟩
set_option maxRecDepth 20000 in
set_option maxHeartbeats 4000000 in
theorem fb2_any (u d0 a : Int) (hd0 : bits BinOp.and IntKind.u64 u 15 = d0) (hq0 : u / 16 = a) (hg0 : 16 ≤ u) (hl0 : u < 65536) (hb0 : 0 ≤ d0) (hc0 : d0 < 16) (ha0 : 0 < a) (ha1 : a < 16) (w : World) (h : w.cell? ⟨3, 15, none⟩ = some (.int .u8 4)) :
    Calls Tryd.prog 68 #[.slice none 0 0, .int .u64 u, .int .i64 16, .bool false, .bool false] w fun e w' => e = .returned (.tuple #[.slice none 0 0, .string ⟨[dg a, dg d0].toArray⟩]) ∧ Below w.heap.size w w' := by
  have k0 := run_dg .u64 a (by omega) ha1
  have k1 := run_dg .u64 d0 hb0 hc0
  have hc := fun o => cell_under w o h
  have hv := tail_conv w ((Tryd.zeroCells97.setIfInBounds 64 (.int .u8 ((dg d0).toNat : Int))).setIfInBounds 63 (.int .u8 ((dg a).toNat : Int))) 97 63 [dg a, dg d0] 2 2 rfl (by
    intro j hj
    have hj : j < 2 := by simpa using hj
    obtain rfl | rfl : j = 0 ∨ j = 1 := by omega
    all_goals simp [Array.getElem?_setIfInBounds, z65_size])
  clear hb0 hc0
  go_enter Tryd.func68, Tryd.ntmps68
  go_wp2_with (first
    | (go_at_call 77; refine (pw_any _).mono ?_; rintro e w' ⟨rfl, rfl⟩)
    | (go_at_call 78; refine (tz_any _ (hc _)).mono ?_; rintro e w' ⟨rfl, rfl⟩))
  refine wp_loop_rounds 2 ?_
  rw [rounds_succ]
  go_wp2
  rw [rounds_succ]
  go_wp2
  go_ret2
  exact ⟨rfl, (by repeat (first | exact Below.refl _ _ | assumption | refine bstep ?_ (by assumption) | refine Below.drew ?_ | refine Below.alloc ?_ (by first | (simp; done) | (simp; omega) | omega) _ | refine Below.setCell ?_ (by first | (simp; done) | (simp; omega) | omega) _))⟩
set_option maxRecDepth 20000 in
set_option maxHeartbeats 4000000 in
theorem fb3_any (u v1 d0 d1 a : Int) (hd0 : bits BinOp.and IntKind.u64 u 15 = d0) (hq0 : u / 16 = v1) (hg0 : 16 ≤ u) (hl0 : u < 65536) (hb0 : 0 ≤ d0) (hc0 : d0 < 16) (hd1 : bits BinOp.and IntKind.u64 v1 15 = d1) (hq1 : v1 / 16 = a) (hg1 : 16 ≤ v1) (hl1 : v1 < 65536) (hb1 : 0 ≤ d1) (hc1 : d1 < 16) (ha0 : 0 < a) (ha1 : a < 16) (w : World) (h : w.cell? ⟨3, 15, none⟩ = some (.int .u8 4)) :
    Calls Tryd.prog 68 #[.slice none 0 0, .int .u64 u, .int .i64 16, .bool false, .bool false] w fun e w' => e = .returned (.tuple #[.slice none 0 0, .string ⟨[dg a, dg d1, dg d0].toArray⟩]) ∧ Below w.heap.size w w' := by
  have k0 := run_dg .u64 a (by omega) ha1
  have k1 := run_dg .u64 d0 hb0 hc0
  have k2 := run_dg .u64 d1 hb1 hc1
  have hc := fun o => cell_under w o h
  have hv := tail_conv w (((Tryd.zeroCells97.setIfInBounds 64 (.int .u8 ((dg d0).toNat : Int))).setIfInBounds 63 (.int .u8 ((dg d1).toNat : Int))).setIfInBounds 62 (.int .u8 ((dg a).toNat : Int))) 97 62 [dg a, dg d1, dg d0] 3 3 rfl (by
    intro j hj
    have hj : j < 3 := by simpa using hj
    obtain rfl | rfl | rfl : j = 0 ∨ j = 1 ∨ j = 2 := by omega
    all_goals simp [Array.getElem?_setIfInBounds, z65_size])
  clear hb0 hc0 hb1 hc1
  go_enter Tryd.func68, Tryd.ntmps68
  go_wp2_with (first
    | (go_at_call 77; refine (pw_any _).mono ?_; rintro e w' ⟨rfl, rfl⟩)
    | (go_at_call 78; refine (tz_any _ (hc _)).mono ?_; rintro e w' ⟨rfl, rfl⟩))
  refine wp_loop_rounds 3 ?_
  rw [rounds_succ]
  go_wp2
  rw [rounds_succ]
  go_wp2
  rw [rounds_succ]
  go_wp2
  go_ret2
  exact ⟨rfl, (by repeat (first | exact Below.refl _ _ | assumption | refine bstep ?_ (by assumption) | refine Below.drew ?_ | refine Below.alloc ?_ (by first | (simp; done) | (simp; omega) | omega) _ | refine Below.setCell ?_ (by first | (simp; done) | (simp; omega) | omega) _))⟩
set_option maxRecDepth 20000 in
set_option maxHeartbeats 4000000 in
theorem fb4_any (u v1 v2 d0 d1 d2 a : Int) (hd0 : bits BinOp.and IntKind.u64 u 15 = d0) (hq0 : u / 16 = v1) (hg0 : 16 ≤ u) (hl0 : u < 65536) (hb0 : 0 ≤ d0) (hc0 : d0 < 16) (hd1 : bits BinOp.and IntKind.u64 v1 15 = d1) (hq1 : v1 / 16 = v2) (hg1 : 16 ≤ v1) (hl1 : v1 < 65536) (hb1 : 0 ≤ d1) (hc1 : d1 < 16) (hd2 : bits BinOp.and IntKind.u64 v2 15 = d2) (hq2 : v2 / 16 = a) (hg2 : 16 ≤ v2) (hl2 : v2 < 65536) (hb2 : 0 ≤ d2) (hc2 : d2 < 16) (ha0 : 0 < a) (ha1 : a < 16) (w : World) (h : w.cell? ⟨3, 15, none⟩ = some (.int .u8 4)) :
    Calls Tryd.prog 68 #[.slice none 0 0, .int .u64 u, .int .i64 16, .bool false, .bool false] w fun e w' => e = .returned (.tuple #[.slice none 0 0, .string ⟨[dg a, dg d2, dg d1, dg d0].toArray⟩]) ∧ Below w.heap.size w w' := by
  have k0 := run_dg .u64 a (by omega) ha1
  have k1 := run_dg .u64 d0 hb0 hc0
  have k2 := run_dg .u64 d1 hb1 hc1
  have k3 := run_dg .u64 d2 hb2 hc2
  have hc := fun o => cell_under w o h
  have hv := tail_conv w ((((Tryd.zeroCells97.setIfInBounds 64 (.int .u8 ((dg d0).toNat : Int))).setIfInBounds 63 (.int .u8 ((dg d1).toNat : Int))).setIfInBounds 62 (.int .u8 ((dg d2).toNat : Int))).setIfInBounds 61 (.int .u8 ((dg a).toNat : Int))) 97 61 [dg a, dg d2, dg d1, dg d0] 4 4 rfl (by
    intro j hj
    have hj : j < 4 := by simpa using hj
    obtain rfl | rfl | rfl | rfl : j = 0 ∨ j = 1 ∨ j = 2 ∨ j = 3 := by omega
    all_goals simp [Array.getElem?_setIfInBounds, z65_size])
  clear hb0 hc0 hb1 hc1 hb2 hc2
  go_enter Tryd.func68, Tryd.ntmps68
  go_wp2_with (first
    | (go_at_call 77; refine (pw_any _).mono ?_; rintro e w' ⟨rfl, rfl⟩)
    | (go_at_call 78; refine (tz_any _ (hc _)).mono ?_; rintro e w' ⟨rfl, rfl⟩))
  refine wp_loop_rounds 4 ?_
  rw [rounds_succ]
  go_wp2
  rw [rounds_succ]
  go_wp2
  rw [rounds_succ]
  go_wp2
  rw [rounds_succ]
  go_wp2
  go_ret2
  exact ⟨rfl, (by repeat (first | exact Below.refl _ _ | assumption | refine bstep ?_ (by assumption) | refine Below.drew ?_ | refine Below.alloc ?_ (by first | (simp; done) | (simp; omega) | omega) _ | refine Below.setCell ?_ (by first | (simp; done) | (simp; omega) | omega) _))⟩
theorem hexU_length (u : Int) : 1 ≤ (hexU u).length ∧ (hexU u).length ≤ 4 := by
  unfold hexU
  split
  · simp
  · split
    · simp
    · split <;> simp
set_option maxHeartbeats 1000000 in
theorem fmtBits_any (u : Int) (h0 : 0 ≤ u) (h1 : u ≤ 65535) (w : World) (h : w.cell? ⟨3, 15, none⟩ = some (.int .u8 4)) :
    Calls Tryd.prog 68 #[.slice none 0 0, .int .u64 u, .int .i64 16, .bool false, .bool false] w fun e w' => e = .returned (.tuple #[.slice none 0 0, .string ⟨(hexU u).toArray⟩]) ∧ Below w.heap.size w w' := by
  have A := fun (x : Int) (hx : 0 ≤ x) => and15 x hx
  unfold hexU
  by_cases c1 : u < 16
  · rw [if_pos c1]
    exact fb1_any u h0 c1 w h
  rw [if_neg c1]
  by_cases c2 : u < 256
  · rw [if_pos c2]
    exact fb2_any u (u % 16) (u / 16) (A u h0) rfl (by omega) (by omega) (by omega) (by omega) (by omega) (by omega) w h
  rw [if_neg c2]
  by_cases c3 : u < 4096
  · rw [if_pos c3]
    exact fb3_any u (u / 16) (u % 16) (u / 16 % 16) (u / 256) (A u h0) rfl (by omega) (by omega) (by omega) (by omega) (A (u / 16) (by omega)) (by omega) (by omega) (by omega) (by omega) (by omega) (by omega) (by omega) w h
  rw [if_neg c3]
  exact fb4_any u (u / 16) (u / 256) (u % 16) (u / 16 % 16) (u / 256 % 16) (u / 4096) (A u h0) rfl (by omega) (by omega) (by omega) (by omega) (A (u / 16) (by omega)) (by omega) (by omega) (by omega) (by omega) (by omega) (A (u / 256) (by omega)) (by omega) (by omega) (by omega) (by omega) (by omega) (by omega) (by omega) w h
set_option maxHeartbeats 1000000 in
theorem ifmtU_any (u : Int) (h0 : 0 ≤ u) (h1 : u ≤ 65535) (w : World) (h : w.cell? ⟨3, 15, none⟩ = some (.int .u8 4)) :
    Calls Tryd.prog 58 #[.int .u64 u, .int .i64 16] w fun e w' => e = .returned (.string ⟨(hexU u).toArray⟩) ∧ Below w.heap.size w w' := by
  have hk := fun w h => fmtBits_any u h0 h1 w h
  have hk := Lib.hid hk
  go_enter Tryd.func58, Tryd.ntmps58
  go_wp2_with (first
    | (go_at_call 68; refine (hk.out _ (by assumption)).mono ?_; rintro e w' ⟨rfl, hb⟩; have hsz := hb.size))
  go_ret
  exact ⟨rfl, (by repeat (first | exact Below.refl _ _ | assumption | refine bstep ?_ (by assumption) | refine Below.drew ?_ | refine Below.alloc ?_ (by first | (simp; done) | (simp; omega) | omega) _ | refine Below.setCell ?_ (by first | (simp; done) | (simp; omega) | omega) _))⟩
theorem fmtU_any (u : Int) (h0 : 0 ≤ u) (h1 : u ≤ 65535) (w : World) (h : w.cell? ⟨3, 15, none⟩ = some (.int .u8 4)) :
    Calls Tryd.prog 45 #[.int .u64 u, .int .i64 16] w fun e w' => e = .returned (.string ⟨(hexU u).toArray⟩) ∧ Below w.heap.size w w' := by
  have hk := fun w h => ifmtU_any u h0 h1 w h
  have hk := Lib.hid hk
  go_enter Tryd.func45, Tryd.ntmps45
  go_wp2_with (first
    | (go_at_call 58; refine (hk.out _ (by assumption)).mono ?_; rintro e w' ⟨rfl, hb⟩; have hsz := hb.size))
  go_ret
  exact ⟨rfl, (by repeat (first | exact Below.refl _ _ | assumption | refine bstep ?_ (by assumption) | refine Below.drew ?_ | refine Below.alloc ?_ (by first | (simp; done) | (simp; omega) | omega) _ | refine Below.setCell ?_ (by first | (simp; done) | (simp; omega) | omega) _))⟩
/-- a number's digits of 16, so many at least, and an h -/
def hexH (n d : Int) : List UInt8 := Lib.repeatL [48] (d - (hexU n).length).toNat ++ hexU n ++ [104]
theorem ret_bs {a b : ByteArray} (h : a = b) : Ending.returned (.string a) = .returned (.string b) := by rw [h]
theorem bs_app (a b : List UInt8) : (⟨a.toArray⟩ : ByteArray) ++ ⟨b.toArray⟩ = ⟨(a ++ b).toArray⟩ := by
  apply ByteArray.ext
  simp
theorem rep_any (d : Int) (L : Nat) (hd0 : 0 ≤ d) (hd1 : d ≤ 8) (w : World) :
    Calls Tryd.prog 46 #[.string ⟨#[48]⟩, .int .i64 (max (min (max d 0) 8 - (L : Int)) 0)] w fun e w' => e = .returned (.string ⟨(Lib.repeatL [48] (d - L).toNat).toArray⟩) ∧ Below w.heap.size w w' := by
  have h := Sh.strings_Repeat ⟨#[48]⟩ (d - L).toNat w (by omega) (by show 1 * _ ≤ _; omega)
  rw [show (((d - L).toNat : Nat) : Int) = max (min (max d 0) 8 - (L : Int)) 0 by omega] at h
  exact h
theorem la_size (l : List UInt8) : (⟨l.toArray⟩ : ByteArray).size = l.length := by show l.toArray.size = _; simp
set_option maxHeartbeats 1000000 in
theorem thexN_any (n d : Int) (h0 : 0 ≤ n) (h1 : n ≤ 65535) (hd0 : 0 ≤ d) (hd1 : d ≤ 8) (w : World) (h : w.cell? ⟨3, 15, none⟩ = some (.int .u8 4)) :
    Calls Tryd.prog 33 #[.int .i64 n, .int .i64 d] w fun e w' => e = .returned (.string ⟨(hexH n d).toArray⟩) ∧ Below w.heap.size w w' := by
  have hk := Lib.hid (fmtU_any n h0 h1 w h)
  have hl := hexU_length n
  have hr := Lib.hid (fun w => rep_any d (hexU n).length hd0 hd1 w)
  have hR : (Lib.repeatL [48] (d - (hexU n).length).toNat).length ≤ 8 := by
    rw [Lib.repeatL_length]
    simp
    omega
  unfold hexH
  generalize Lib.repeatL [48] (d - (hexU n).length).toNat = R at *
  generalize hexU n = H at *
  have s1 := la_size H
  have s2 := la_size R
  have s3 : (⟨R.toArray⟩ ++ ⟨H.toArray⟩ : ByteArray) = ⟨(R ++ H).toArray⟩ := bs_app R H
  have s4 : (⟨(R ++ H).toArray⟩ : ByteArray).size = R.length + H.length := by rw [la_size]; simp
  go_enter Tryd.func33, Tryd.ntmps33
  go_wp2_with (first
    | (go_at_call 45; refine (hk.out).mono ?_; rintro e w' ⟨rfl, hb⟩; have hsz := hb.size)
    | (go_at_call 46; refine (hr.out _).mono ?_; rintro e w' ⟨rfl, hb⟩; have hsz := hb.size))
  go_ret
  refine ⟨ret_bs ?_, (by repeat (first | exact Below.refl _ _ | assumption | refine bstep ?_ (by assumption) | refine Below.drew ?_ | refine Below.alloc ?_ (by first | (simp; done) | (simp; omega) | omega) _ | refine Below.setCell ?_ (by first | (simp; done) | (simp; omega) | omega) _))⟩
  show (⟨([] : List UInt8).toArray⟩ ++ ⟨R.toArray⟩ ++ ⟨H.toArray⟩ ++ ⟨[104].toArray⟩ : ByteArray) = _
  rw [bs_app, bs_app, bs_app]
  rfl
theorem thex_any (n d : Int) (h0 : 0 ≤ n) (h1 : n ≤ 65535) (hd0 : 0 ≤ d) (hd1 : d ≤ 8) (w : World) (h : TextTabs w) :
    Calls Tryd.prog 33 #[.int .i64 n, .int .i64 d] w fun e w' => e = .returned (.string ⟨(hexH n d).toArray⟩) ∧ Below w.heap.size w w' :=
  thexN_any n d h0 h1 hd0 hd1 w h.bru
theorem hexH2 (n : Int) (h0 : 0 ≤ n) (h1 : n ≤ 255) : hexH n 2 = hex2 n := by
  unfold hexH hexU hex2
  by_cases c1 : n < 16
  · rw [if_pos c1, show n / 16 = 0 by omega, show n % 16 = n by omega]
    rfl
  · rw [if_neg c1, if_pos (by omega)]
    rfl
theorem hexH4 (n : Int) (h0 : 0 ≤ n) (h1 : n ≤ 65535) : hexH n 4 = hex4 n := by
  unfold hexH hexU hex4
  by_cases c1 : n < 16
  · rw [if_pos c1, show n / 4096 = 0 by omega, show n / 256 % 16 = 0 by omega, show n / 16 % 16 = 0 by omega, show n % 16 = n by omega]
    rfl
  rw [if_neg c1]
  by_cases c2 : n < 256
  · rw [if_pos c2, show n / 4096 = 0 by omega, show n / 256 % 16 = 0 by omega, show n / 16 % 16 = n / 16 by omega]
    rfl
  rw [if_neg c2]
  by_cases c3 : n < 4096
  · rw [if_pos c3, show n / 4096 = 0 by omega, show n / 256 % 16 = n / 256 by omega]
    rfl
  rw [if_neg c3]
  rfl
/-- digits of ten, with a '-' below 0 -/
def itoaL (n : Int) : List UInt8 := if n < 0 then 45 :: dec3 (-n) else dec3 n
theorem dec3_eq (u : Nat) (h : u < 1000) : Lib.decDigits u = dec3 (u : Int) := by
  unfold dec3
  by_cases c1 : u < 10
  · rw [Lib.decDigits, dif_pos c1, if_pos (by omega)]
    unfold dg
    rw [if_pos (by omega)]
    congr 2
  rw [Lib.decDigits, dif_neg c1, if_neg (by omega)]
  by_cases c2 : u < 100
  · rw [Lib.decDigits, dif_pos (by omega), if_pos (by omega)]
    unfold dg
    rw [if_pos (by omega), if_pos (by omega)]
    show [_, _] = [_, _]
    congr 2
  · rw [Lib.decDigits, dif_neg (by omega), Lib.decDigits, dif_pos (by omega), if_neg (by omega)]
    unfold dg
    rw [if_pos (by omega), if_pos (by omega), if_pos (by omega)]
    show [_, _, _] = [_, _, _]
    congr 2
    · omega
theorem itoaL_eq (n : Int) (h0 : -999 ≤ n) (h1 : n ≤ 999) : Lib.itoa n = itoaL n := by
  unfold Lib.itoa itoaL
  by_cases c : n < 0
  · rw [if_pos c, if_pos c, dec3_eq _ (by omega), show ((n.natAbs : Nat) : Int) = -n by omega]
  · rw [if_neg c, if_neg c, dec3_eq _ (by omega), show ((n.toNat : Nat) : Int) = n by omega]
theorem below_itoa (w : World) (k : Nat) (os : Array Obj) : Below w.heap.size w (Sort.grow (w.drewN k) os) :=
  ⟨rfl, rfl, rfl, by show w.heap.size ≤ (w.heap ++ os).size; rw [Array.size_append]; omega, fun j hj => by
    show (w.heap ++ os)[j]? = w.heap[j]?
    rw [Array.getElem?_append_left hj]⟩
theorem itoa_any (n : Int) (h0 : -999 ≤ n) (h1 : n ≤ 999) (w : World) (h : TextTabs w) :
    Calls Tryd.prog 34 #[.int .i64 n] w fun e w' => e = .returned (.string ⟨(itoaL n).toArray⟩) ∧ Below w.heap.size w w' := by
  refine (Sh.strconv_Itoa n (by omega) (by omega) w h.pow).mono ?_
  rintro e w' ⟨rfl, k, os, rfl⟩
  rw [itoaL_eq n h0 h1]
  exact ⟨rfl, below_itoa w k os⟩
theorem dec3_length (n : Int) : (dec3 n).length ≤ 3 := by
  unfold dec3
  split
  · simp
  · split <;> simp
theorem itoaL_length (n : Int) : (itoaL n).length ≤ 4 := by
  have h1 := dec3_length n
  have h2 := dec3_length (-n)
  unfold itoaL
  split <;> simp <;> omega
theorem signL_length (n : Int) : 1 ≤ (signL n).length ∧ (signL n).length ≤ 4 := by
  have h1 := dec3_length n
  have h2 := dec3_length (-n)
  unfold signL
  split <;> simp <;> omega
theorem signedM_b (b : Int) (h : B8 b) : -128 ≤ signedM b ∧ signedM b ≤ 127 := by
  obtain ⟨h0, h1⟩ := h
  unfold signedM
  split <;> omega
end Go.Proofs.YtpiadeedgjmmkaaDoor
