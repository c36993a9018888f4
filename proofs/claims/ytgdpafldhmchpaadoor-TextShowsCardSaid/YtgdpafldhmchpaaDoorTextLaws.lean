/- Layer 9 (text): the walks of the laws of texts and of planes. -/
import Derived.Test.YtgdpafldhmchpaaDoorTextAwake
import Derived.Test.YtgdpafldhmchpaaDoorTextRefG
namespace Go.Proofs.YtgdpafldhmchpaaDoor
open Go.RowKit
set_option linter.unusedVariables false
set_option linter.unusedSimpArgs false

theorem rshow_same (pl c d m le sk : Int) (hc : B8 c) (hd : B8 d) (h0 : 0 ≤ m) (h1 : m ≤ 65535) (w : World) :
    Calls Tryd.prog 8 #[opV pl c d m le sk] w fun e w' => e = .returned (.string (sy pl d m (showT pl c))) ∧ Below w.heap.size w w' := by
  rw [show_same pl c hc]
  exact rshow_any' pl c d m le sk hc hd h0 h1 w
set_option maxHeartbeats 4000000 in
theorem textShows_walk (pl c d m le sk : Int) (w : World) (ho : B8 c ∧ B8 d ∧ 0 ≤ m ∧ m ≤ 65535) (ht : TextTabs w) :
    Calls Tryd.prog 3 #[opV pl c d m le sk] w fun e w' => e = .returned (.bool true) ∧ Below w.heap.size w w' := by
  obtain ⟨hc, hd, h0, h1⟩ := ho
  have ka := Lib.hid (fun W (hW : Below w.heap.size w W) => tawake_any W (ht.below hW))
  have ks := fun W (hW : Below w.heap.size w W) => tshow_any pl c d m le sk hc hd ⟨h0, h1⟩ W (ht.below hW)
  have kr := fun W => rshow_same pl c d m le sk hc hd h0 h1 W
  generalize sy pl d m (showT pl c) = R at *
  have KS := Lib.hid ks
  have KR := Lib.hid kr
  clear ks kr hc hd h0 h1 ht
  go_enter Tryd.func3, Tryd.ntmps3
  have HB0 := Lib.hid ((Below.refl _ w).alloc (Nat.le_refl _) (.cells #[.int .i64 pl, .int .u8 c, .int .u8 d, .int .u16 m, .int .i64 le, .int .i64 sk] 24))
  have r0 := Lib.hid (Row.new w 24 #[.int .i64 pl, .int .u8 c, .int .u8 d, .int .u16 m, .int .i64 le, .int .i64 sk])
  go_wp2_with fail
  refine (ka.out _ HB0.out).mono ?_
  rintro e w1 ⟨rfl, hb1⟩
  have r1 := r0.out.below hb1 (by simp)
  have HB1 := Lib.hid (HB0.out.trans (hb1.mono (by simp)))
  have hs := row6c r1
  have hsz := r1.lt
  clear r1 hb1
  go_wp2_with fail
  go_region_held3 (fun w' => w'.cell? ⟨w.heap.size, 0, none⟩ = some (.int .i64 pl) ∧ w'.cell? ⟨w.heap.size, 1, none⟩ = some (.int .u8 c) ∧ w'.cell? ⟨w.heap.size, 2, none⟩ = some (.int .u8 d) ∧ w'.cell? ⟨w.heap.size, 3, none⟩ = some (.int .u16 m) ∧ w'.cell? ⟨w.heap.size, 4, none⟩ = some (.int .i64 le) ∧ w'.cell? ⟨w.heap.size, 5, none⟩ = some (.int .i64 sk)) (first | with_reducible assumption | exact hs | with_reducible exact keep6r hb (by with_reducible assumption))
    (first
    | (go_at_call 7; refine (KS.out _ HB1.out.drew).mono ?_; rintro e w3 ⟨rfl, hb⟩; have HB3 := Lib.hid (HB1.out.trans ((Below.drew (Below.refl _ w1)).trans hb |>.mono HB1.out.size)))
    | (go_at_call 8; refine (KR.out _).mono ?_; rintro e w4 ⟨rfl, hb⟩; have HB4 := Lib.hid (HB3.out.trans (hb.mono HB3.out.size))))
  go_wp2
  go_ret
  exact ⟨rfl, HB4.out⟩
end Go.Proofs.YtgdpafldhmchpaaDoor
