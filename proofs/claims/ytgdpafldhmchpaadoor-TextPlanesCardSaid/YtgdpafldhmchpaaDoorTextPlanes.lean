/- Layer 9 (text): the walk of the law of planes. -/
import Derived.Test.YtgdpafldhmchpaaDoorTextAwake
import Derived.Test.YtgdpafldhmchpaaDoorTextRefG
namespace Go.Proofs.YtgdpafldhmchpaaDoor
open Go.RowKit
set_option linter.unusedVariables false
set_option linter.unusedSimpArgs false

theorem rshow_even (pl c d m le sk : Int) (hc : B8 c) (hd : B8 d) (h0 : 0 ≤ m) (h1 : m ≤ 65535) (w : World) :
    Calls Tryd.prog 8 #[opV pl c d m le sk] w fun e w' => e = .returned (.string (sy pl d m (showT pl c))) ∧ Below w.heap.size w w' := by
  rw [show_same pl c hc]
  exact rshow_any' pl c d m le sk hc hd h0 h1 w
set_option maxRecDepth 20000 in
set_option maxHeartbeats 4000000 in
theorem textPlanes_walk (pl d m : Int) (d0 : 0 ≤ d) (d1 : d ≤ 255) (h0 : 0 ≤ m) (h1 : m ≤ 65535) (w : World) (ht : TextTabs w) :
    Calls Tryd.prog 4 #[.int .i64 pl, .int .u8 d, .int .u16 m] w fun e w' => e = .returned (.bool true) ∧ Below w.heap.size w w' := by
  have ka := Lib.hid (tawake_any w ht)
  have ks := Lib.hid (fun c (hc : B8 c) W (hW : Below w.heap.size w W) => tshow_any pl c d m 0 0 hc ⟨d0, d1⟩ ⟨h0, h1⟩ W (ht.below hW))
  have kr := Lib.hid (fun c (hc : B8 c) W => rshow_even pl c d m 0 0 hc ⟨d0, d1⟩ h0 h1 W)
  clear ht d0 d1 h0 h1
  go_enter Tryd.func4, Tryd.ntmps4
  go_wp2_with fail
  refine ka.out.mono ?_
  rintro e w1 ⟨rfl, hb1⟩
  have HB1 := Lib.hid hb1
  clear hb1
  go_wp2
  go_loopw [8] (fun tc wr => ∃ c : Nat, c ≤ 256 ∧ tc = .int .i64 (c : Int) ∧ Below w.heap.size w wr) (fun tc _ => 256 - (intOf tc).toNat)
  case atStart => exact ⟨0, by omega, rfl, HB1.out⟩
  case round =>
    obtain ⟨c, hc, rfl, hB⟩ := hrel
    have HB := Lib.hid hB
    clear hB
    by_cases hlt : c < 256
    · have hc8 : B8 (c : Int) := ⟨by omega, by omega⟩
      have n0 : (0 : Int) ≤ (c : Int) := by omega
      have n1 : (c : Int) < 256 := by omega
      have n2 : IntKind.u8.wrap (c : Int) = (c : Int) := by rw [IntKind.wrap_u8]; omega
      have k1 := ks.out (c : Int) hc8
      have k2 := kr.out (c : Int) hc8
      generalize sy pl d m (showT pl (c : Int)) = R at *
      have KS := Lib.hid k1
      have KR := Lib.hid k2
      clear k1 k2 hc8
      go_upto_region 8 with (fail)
      have HB2 := Lib.hid (HB.out.alloc HB.out.size (.cells #[.int .i64 pl, .int .u8 (c : Int), .int .u8 d, .int .u16 m, .int .i64 0, .int .i64 0] 24))
      have hs := row6c (Row.new wr 24 #[.int .i64 pl, .int .u8 (c : Int), .int .u8 d, .int .u16 m, .int .i64 0, .int .i64 0])
      have hsz := (Row.new wr 24 #[.int .i64 pl, .int .u8 (c : Int), .int .u8 d, .int .u16 m, .int .i64 0, .int .i64 0]).lt
      generalize wr.alloc (.cells #[.int .i64 pl, .int .u8 (c : Int), .int .u8 d, .int .u16 m, .int .i64 0, .int .i64 0] 24) = W0 at *
      go_region_held3 (fun w' => w'.cell? ⟨wr.heap.size, 0, none⟩ = some (.int .i64 pl) ∧ w'.cell? ⟨wr.heap.size, 1, none⟩ = some (.int .u8 (c : Int)) ∧ w'.cell? ⟨wr.heap.size, 2, none⟩ = some (.int .u8 d) ∧ w'.cell? ⟨wr.heap.size, 3, none⟩ = some (.int .u16 m) ∧ w'.cell? ⟨wr.heap.size, 4, none⟩ = some (.int .i64 0) ∧ w'.cell? ⟨wr.heap.size, 5, none⟩ = some (.int .i64 0)) (first | with_reducible assumption | exact hs | with_reducible exact keep6r hb (by with_reducible assumption))
        (first
        | (go_at_call 7; refine (KS.out _ HB2.out.drew).mono ?_; rintro e w3 ⟨rfl, hb⟩; have HB3 := Lib.hid (HB2.out.trans ((Below.drew (Below.refl _ W0)).trans hb |>.mono HB2.out.size)))
        | (go_at_call 8; refine (KR.out _).mono ?_; rintro e w4 ⟨rfl, hb⟩; have HB4 := Lib.hid (HB3.out.trans (hb.mono HB3.out.size))))
      go_wp2
      go_roundw
      case rel => exact ⟨c + 1, by omega, by go_num, HB4.out⟩
      case measure => simp [intOf]; omega
    · obtain rfl : c = 256 := by omega
      go_wp2
      go_ret
      exact ⟨rfl, HB.out⟩
end Go.Proofs.YtgdpafldhmchpaaDoor
