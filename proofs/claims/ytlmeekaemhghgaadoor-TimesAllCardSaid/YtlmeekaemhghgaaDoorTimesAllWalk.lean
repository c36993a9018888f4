/- Layer 10 (times): the walk of the law of all. -/
import Derived.Test.YtlmeekaemhghgaaDoorTimesLaws
import Derived.Deep.DeepCutAuto
namespace Go.Proofs.YtlmeekaemhghgaaDoor
open Go.RowKit
set_option linter.unusedVariables false
set_option linter.unusedSimpArgs false

set_option maxHeartbeats 4000000 in
theorem timesAll_long (A : Option Addr) (cap : Nat) (xs : List Int) (p : Int) (hl : 300 < xs.length) (w : World) (ht : TimesTabs w) :
    Calls Tryd.prog 4 #[.slice A xs.length cap, .int .i64 p] w fun e w' => e = .returned (.bool true) ∧ Below w.heap.size w w' := by
  have ka := Lib.hid (xawake_any w ht)
  clear ht
  go_enter Tryd.func4, Tryd.ntmps4
  go_wp2_with (first
    | (go_at_call 8; refine (ka.out).mono ?_; rintro e w' ⟨rfl, hb⟩; have hsz := hb.size))
  go_ret
  exact ⟨rfl, (by repeat (first | exact Below.refl _ _ | assumption | refine bstep ?_ (by assumption) | refine Below.drew ?_ | refine Below.alloc ?_ (by first | (simp; done) | (simp; omega) | omega) _ | refine Below.setCell ?_ (by first | (simp; done) | (simp; omega) | omega) _))⟩
theorem stops_any (xs : List Int) : ∃ k, Stops xs k := by
  have key : ∀ n k, Runs xs k → xs.length - posM xs k ≤ n → ∃ j, Stops xs j := by
    intro n
    induction n with
    | zero =>
      intro k hr hn
      refine ⟨k, hr, ?_⟩
      have hp := hr.pos
      have h1 := lead_lt_len (xs.drop (posM xs k))
      unfold okM
      rw [List.length_drop]
      exact decide_eq_false (by omega)
    | succ n ih =>
      intro k hr hn
      cases ho : okM (xs.drop (posM xs k)) with
      | false => exact ⟨k, hr, ho⟩
      | true =>
        have h1 := lead_lt_len (xs.drop (posM xs k))
        have e3 : posM xs (k + 1) = posM xs k + lenOf (xs.drop (posM xs k)) := rfl
        exact ih (k + 1) (hr.succ ho) (by omega)
  exact key xs.length 0 (Runs.zero xs) (by omega)
set_option maxRecDepth 20000 in
set_option maxHeartbeats 4000000 in
theorem timesAll_walk (A : Option Addr) (cap : Nat) (xs : List Int) (p : Int) (w : World) (hcap : xs.length ≤ cap) (hm : cap ≤ maxLen) (hx : Bytes8 xs) (hb : BytesIn w w.heap.size A xs) (hn : A = none → cap = 0) (ht : TimesTabs w) :
    Calls Tryd.prog 4 #[.slice A xs.length cap, .int .i64 p] w fun e w' => e = .returned (.bool true) ∧ Below w.heap.size w w' := by
  by_cases h300 : 300 < xs.length
  · exact timesAll_long A cap xs p h300 w ht
  have hl : xs.length ≤ 300 := by omega
  obtain ⟨k, hst⟩ := stops_any xs
  have ka := Lib.hid (xawake_any w ht)
  have K1 := Lib.hid (fun c t (hc : B8 c) W (hW : Below w.heap.size w W) => timesOf_any p c 0 0 0 0 t hc W (ht.below hW))
  have K2 := Lib.hid (fun c t (hc : B8 c) W => rTimesOf_any p c 0 0 0 0 t hc W)
  have K3 := Lib.hid (fun W (hW : Below w.heap.size w W) => timesAll_any A cap xs (by omega) hcap hx k hst W ((hb.below hW).more hW.size) (ht.below hW))
  have K4 := Lib.hid (fun W (hW : Below w.heap.size w W) => rTimesAll_any A cap xs (by omega) hcap hx k hst W ((hb.below hW).more hW.size))
  have K5 := Lib.hid (fun W (hW : Below w.heap.size w W) => table_any W (ht.below hW))
  have K6 := Lib.hid (fun W => rtable_any W)
  have hE := tab_binOp
  have hG := tab_guard
  generalize sumT (opsL xs k) = T at *
  clear ht hx hb hn hst hm hcap h300
  go_enter Tryd.func4, Tryd.ntmps4
  go_wp2_with fail
  refine ka.out.mono ?_
  rintro e w1 ⟨rfl, hb1⟩
  have HB1 := Lib.hid hb1
  clear hb1
  go_wp2
  go_loopw [6] (fun tc wr => ∃ c : Nat, c ≤ 256 ∧ tc = .int .i64 (c : Int) ∧ Below w.heap.size w wr) (fun tc _ => 256 - (intOf tc).toNat)
  case atStart => exact ⟨0, by omega, rfl, HB1.out⟩
  case round =>
    obtain ⟨c, hc, rfl, hB⟩ := hrel
    have HB := Lib.hid hB
    clear hB
    by_cases hlt : c < 256
    · have hc8 : B8 (c : Int) := ⟨by omega, by omega⟩
      have n0 : (0 : Int) ≤ (c : Int) := by omega
      have n1 : (c : Int) < 256 := by omega
      have n2 : IntKind.u8.wrap (c : Int) = (c : Int) := by rw [IntKind.wrap_u8]; omega
      have kk := Lib.hid (fun t W hW => K1.out (c : Int) t hc8 W hW)
      have rr := Lib.hid (fun t W => K2.out (c : Int) t hc8 W)
      generalize ofM p (c : Int) 0 = RF at *
      clear hc8
      go_upto_region 10 with (fail)
      have HB2 := Lib.hid (HB.out.alloc HB.out.size (.cells #[.int .i64 p, .int .u8 (c : Int), .int .u8 0, .int .u16 0, .int .i64 0, .int .i64 0] 24))
      have hs := row6c (Row.new wr 24 #[.int .i64 p, .int .u8 (c : Int), .int .u8 0, .int .u16 0, .int .i64 0, .int .i64 0])
      have hsz := (Row.new wr 24 #[.int .i64 p, .int .u8 (c : Int), .int .u8 0, .int .u16 0, .int .i64 0, .int .i64 0]).lt
      generalize wr.alloc (.cells #[.int .i64 p, .int .u8 (c : Int), .int .u8 0, .int .u16 0, .int .i64 0, .int .i64 0] 24) = W0 at *
      go_region_held3 (fun w' => w'.cell? ⟨wr.heap.size, 0, none⟩ = some (.int .i64 p) ∧ w'.cell? ⟨wr.heap.size, 1, none⟩ = some (.int .u8 (c : Int)) ∧ w'.cell? ⟨wr.heap.size, 2, none⟩ = some (.int .u8 0) ∧ w'.cell? ⟨wr.heap.size, 3, none⟩ = some (.int .u16 0) ∧ w'.cell? ⟨wr.heap.size, 4, none⟩ = some (.int .i64 0) ∧ w'.cell? ⟨wr.heap.size, 5, none⟩ = some (.int .i64 0))
        (first | with_reducible assumption | exact hs | with_reducible exact keep6r hb (by with_reducible assumption))
        (first
        | (go_at_call 9; refine (kk.out _ _ (by (first | exact HB4.out | exact HB2.out.drew))).mono ?_; rintro e w3 ⟨rfl, hb⟩; (first | have HB5 := Lib.hid (HB4.out.trans (hb.mono HB4.out.size)) | have HB3 := Lib.hid (HB2.out.trans ((Below.drew (Below.refl _ W0)).trans hb |>.mono HB2.out.size))))
        | (go_at_call 10; refine (rr.out _ _).mono ?_; rintro e w4 ⟨rfl, hb⟩; (first | have HB6 := Lib.hid (HB5.out.trans (hb.mono HB5.out.size)) | have HB4 := Lib.hid (HB3.out.trans (hb.mono HB3.out.size)))))
      clear hs hsz
      go_wp2
      go_roundw
      case rel => exact ⟨c + 1, by omega, by go_num, HB6.out⟩
      case measure => simp [intOf]; omega
    · obtain rfl : c = 256 := by omega
      clear K1 K2 HB1
      have HB2 := Lib.hid HB.out
      go_wp2_with fail
      refine (K3.out _ HB2.out).mono ?_
      rintro e w3 ⟨rfl, hb⟩
      have HB3 := Lib.hid (HB2.out.trans (hb.mono HB2.out.size))
      clear hb
      go_wp2_with fail
      refine (K4.out _ HB3.out).mono ?_
      rintro e w4 ⟨rfl, hb⟩
      have HB4 := Lib.hid (HB3.out.trans (hb.mono HB3.out.size))
      clear hb
      go_wp2_with fail
      refine (K5.out _ HB4.out).mono ?_
      rintro e w5 ⟨rfl, hb⟩
      have HB5 := Lib.hid (HB4.out.trans (hb.mono HB4.out.size))
      clear hb
      go_wp2_with fail
      refine (K6.out _).mono ?_
      rintro e w6 ⟨rfl, hb⟩
      have HB6 := Lib.hid (HB5.out.trans (hb.mono HB5.out.size))
      clear hb
      go_wp2
      go_ret
      exact ⟨rfl, HB6.out⟩
end Go.Proofs.YtlmeekaemhghgaaDoor
