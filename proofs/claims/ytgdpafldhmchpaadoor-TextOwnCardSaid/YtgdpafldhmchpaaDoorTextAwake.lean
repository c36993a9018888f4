/- Layer 9 (text): the document's examples: contracts of Same and awake. -/
import Derived.Test.YtgdpafldhmchpaaDoorTextAll
import Derived.Test.YtgdpafldhmchpaaDoorDecodeAwake
import Derived.BigQuiet
import Derived.Deep.DeepCutAuto
import Derived.Deep.QuietTactic
namespace Go.Proofs.YtgdpafldhmchpaaDoor
open Go.RowKit
set_option linter.unusedVariables false
set_option linter.unusedSimpArgs false

set_option maxHeartbeats 4000000 in
theorem rsameT_any (g h c1 c2 k : Nat) (L : Nat → ByteArray) (hk : k ≤ 4096) (w : World) (ha : ∀ j, j < k → w.cell? ⟨g, j, none⟩ = some (.string (L j))) (hb : ∀ j, j < k → w.cell? ⟨h, j, none⟩ = some (.string (L j))) :
    Calls Tryd.prog 11 #[.slice (some ⟨g, 0, none⟩) k c1, .slice (some ⟨h, 0, none⟩) k c2] w fun e w' => e = .returned (.bool true) ∧ Below w.heap.size w w' := by
  have HA := Lib.hid ha
  have HB := Lib.hid hb
  clear ha hb
  go_enter Tryd.func11, Tryd.ntmps11
  go_wp2
  go_loopw [5] (fun ti wr => ∃ j n : Nat, j ≤ k ∧ ti = .int .i64 (j : Int) ∧ wr = w.drewN n) (fun ti _ => k - (intOf ti).toNat)
  case atStart => exact ⟨0, 0, Nat.zero_le _, rfl, rfl⟩
  case round =>
    obtain ⟨j, n, hj, rfl, rfl⟩ := hrel
    by_cases hlt : j < k
    · have l0 := HA.out j hlt
      have m0 := HB.out j hlt
      generalize L j = S at *
      have hj1 : (j : Int) < (k : Int) := by omega
      have hj0 : (0 : Int) ≤ (j : Int) := by omega
      go_upto_region 6 with (fail)
      go_quiet (fail)
      go_wp2
      go_roundw
      case rel => exact ⟨j + 1, _, by omega, by go_num, rfl⟩
      case measure => simp [intOf]; omega
    · obtain rfl : j = k := by omega
      go_wp2
      go_ret
      exact ⟨rfl, bel_drewN (Below.refl _ _) _⟩
def LA (j : Nat) : ByteArray := [⟨#[108, 100, 32, 40, 105, 120, 43, 53, 41, 44, 48, 55, 104]⟩, ⟨#[106, 114, 32, 36, 43, 48]⟩, ⟨#[108, 100, 105, 114]⟩, ⟨#[115, 101, 116, 32, 48, 44, 40, 105, 120, 43, 53, 41, 44, 98]⟩].getD j ⟨#[]⟩
abbrev exBs : List Int := [221, 54, 5, 7, 24, 254, 237, 176, 221, 203, 5, 192]
theorem exS : Stops exBs 4 := by
  refine ⟨fun j hj => ?_, rfl⟩
  obtain rfl | rfl | rfl | rfl : j = 0 ∨ j = 1 ∨ j = 2 ∨ j = 3 := by omega
  all_goals rfl
theorem exO : opsL exBs 4 = [⟨3, 54, 5, 7, 4, 0⟩, ⟨0, 24, 0, 254, 2, 0⟩, ⟨2, 176, 0, 0, 2, 0⟩, ⟨5, 192, 5, 0, 4, 0⟩] := rfl
theorem exT : textCs (opsL exBs 4) = [.string ⟨#[108, 100, 32, 40, 105, 120, 43, 53, 41, 44, 48, 55, 104]⟩, .string ⟨#[106, 114, 32, 36, 43, 48]⟩, .string ⟨#[108, 100, 105, 114]⟩, .string ⟨#[115, 101, 116, 32, 48, 44, 40, 105, 120, 43, 53, 41, 44, 98]⟩] := by
  rw [exO]
  rfl
theorem exB (j : Nat) (hj : j < 4) : OpB (opK exBs j) := by
  obtain rfl | rfl | rfl | rfl : j = 0 ∨ j = 1 ∨ j = 2 ∨ j = 3 := by omega
  all_goals exact ⟨⟨by decide, by decide⟩, ⟨by decide, by decide⟩, by decide, by decide⟩
theorem tall_ex (W : World) (b : Nat) (hb : b = W.heap.size) (ht : TextTabs W) : Calls Tryd.prog 10 #[.slice (some ⟨b, 0, none⟩) 12 12] (W.alloc (.cells (bvs exBs).toArray 5)) fun e w' =>
    ∃ g cap, e = .returned (.slice (some ⟨g, 0, none⟩) 4 cap) ∧ (∀ j, j < 4 → w'.cell? ⟨g, j, none⟩ = some (.string (LA j))) ∧ Below W.heap.size W w' := by
  subst hb
  have h := tall_any (some ⟨W.heap.size, 0, none⟩) 12 exBs (by decide) (by decide) (b8_list rfl) 4 exS (by omega) (by omega) exB (W.alloc (.cells (bvs exBs).toArray 5)) ((bytes_new W _ _).more (by simp)) (ht.al _)
  refine Calls.mono h ?_
  rintro e w' ⟨v, base, hbs, rfl, hown, hb⟩
  rcases hown.2 with ⟨_, h0⟩ | ⟨g, cap, cur, rfl, -⟩
  · cases h0
  · refine ⟨g, cap, rfl, fun j hj => ?_, ((Below.refl _ W).alloc (Nat.le_refl _) _).trans (hb.mono (by simp))⟩
    rw [hown.cellAt j (by omega), exT]
    obtain rfl | rfl | rfl | rfl : j = 0 ∨ j = 1 ∨ j = 2 ∨ j = 3 := by omega
    all_goals rfl
theorem tshow_ex (W : World) (ht : TextTabs W) : Calls Tryd.prog 7 #[opV 0 0 0 0 0 0] W fun e w' => e = .returned (.string ⟨#[110, 111, 112]⟩) ∧ Below W.heap.size W w' :=
  tshow_any 0 0 0 0 0 0 ⟨by decide, by decide⟩ ⟨by decide, by decide⟩ ⟨by decide, by decide⟩ W ht
theorem thex_ex (W : World) (ht : TextTabs W) : Calls Tryd.prog 12 #[.int .i64 255, .int .i64 4] W fun e w' => e = .returned (.string ⟨#[48, 48, 102, 102, 104]⟩) ∧ Below W.heap.size W w' :=
  thex_any 255 4 (by decide) (by decide) (by decide) (by decide) W ht
theorem tIndex_ex (W : World) (ht : TextTabs W) : Calls Tryd.prog 13 #[.int .i64 4, .int .u8 255] W fun e w' => e = .returned (.string ⟨#[40, 105, 121, 45, 49, 41]⟩) ∧ Below W.heap.size W w' :=
  tIndex_any 4 255 ⟨by decide, by decide⟩ W ht
set_option maxHeartbeats 4000000 in
theorem tawake_any (w : World) (ht : TextTabs w) :
    Calls Tryd.prog 6 #[] w fun e w' => e = .returned (.bool true) ∧ Below w.heap.size w w' := by
  have K2 := Lib.hid (fun W (hW : Below w.heap.size w W) => tshow_ex W (ht.below hW))
  have K3 := Lib.hid (fun W (hW : Below w.heap.size w W) => thex_ex W (ht.below hW))
  have K4 := Lib.hid (fun W (hW : Below w.heap.size w W) => tIndex_ex W (ht.below hW))
  have K1 := Lib.hid (tall_ex w w.heap.size rfl ht)
  clear ht
  go_enter Tryd.func6, Tryd.ntmps6
  go_wp2_with fail
  refine K1.out.mono ?_
  rintro e w1 ⟨g, cap, rfl, hcells, hb1⟩
  have HC := Lib.hid hcells
  have HB1 := Lib.hid hb1
  clear hcells hb1
  go_wp2_with fail
  refine (rsameT_any g w1.heap.size cap 4 4 LA (by omega) _ (fun j hj => cell_under w1 _ (HC.out j hj)) (fun j hj => by
    obtain rfl | rfl | rfl | rfl : j = 0 ∨ j = 1 ∨ j = 2 ∨ j = 3 := by omega
    all_goals exact (Row.new w1 _ _).cell _)).mono ?_
  rintro e w2 ⟨rfl, hb2⟩
  have HB2 := Lib.hid ((HB1.out.alloc HB1.out.size _).trans (hb2.mono (HB1.out.alloc HB1.out.size _).size))
  clear hb2
  go_wp2_with fail
  refine (K2.out _ HB2.out).mono ?_
  rintro e w3 ⟨rfl, hb3⟩
  have HB3 := Lib.hid (HB2.out.trans (hb3.mono HB2.out.size))
  clear hb3
  go_wp2_with fail
  refine (K3.out _ HB3.out).mono ?_
  rintro e w4 ⟨rfl, hb4⟩
  have HB4 := Lib.hid (HB3.out.trans (hb4.mono HB3.out.size))
  clear hb4
  go_wp2_with fail
  refine (K4.out _ HB4.out).mono ?_
  rintro e w5 ⟨rfl, hb5⟩
  have HB5 := Lib.hid (HB4.out.trans (hb5.mono HB4.out.size))
  clear hb5
  go_wp2
  go_ret
  exact ⟨rfl, HB5.out⟩
end Go.Proofs.YtgdpafldhmchpaaDoor
