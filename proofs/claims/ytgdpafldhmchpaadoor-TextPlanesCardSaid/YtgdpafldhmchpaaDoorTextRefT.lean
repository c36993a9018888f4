/- Layer 9 (text): the document's own: three at z 3. -/
import Derived.Test.YtgdpafldhmchpaaDoorTextRefS
namespace Go.Proofs.YtgdpafldhmchpaaDoor
open Go.RowKit
set_option linter.unusedVariables false
set_option linter.unusedSimpArgs false

/-- one of eight texts -/
def row8 (a b c d e f g h : ByteArray) (y : Int) : ByteArray := [a, b, c, d, e, f, g, h].getD y.toNat h
theorem row8_at (a b c d e f g h : ByteArray) (y : Int) (hy : 0 ≤ y ∧ y ≤ 7) : (#[.string a, .string b, .string c, .string d, .string e, .string f, .string g, .string h] : Array Value)[y.toNat]? = some (.string (row8 a b c d e f g h y)) := by
  rcases eight y hy with rfl | rfl | rfl | rfl | rfl | rfl | rfl | rfl <;> rfl
set_option maxHeartbeats 8000000 in
theorem rthree3 (pl c d m le sk y p q : Int) (h0 : 0 ≤ m) (h1 : m ≤ 65535) (hy : 0 ≤ y ∧ y ≤ 7) (hp : 0 ≤ p ∧ p ≤ 3) (hq : 0 ≤ q ∧ q ≤ 1)  (w : World) :
    Calls Tryd.prog 24 #[opV pl c d m le sk, .int .i64 y, .int .i64 3, .int .i64 p, .int .i64 q] w fun e w' => e = .returned (.string (sy pl d m (threeT pl y 3 p q))) ∧ Below w.heap.size w w' := by
  have kp2 := fun W => rpairSp_any pl c d m le sk 2 (by omega) W
  have kw := fun W => rnn_any pl c d m le sk h0 h1 W
  have kn := fun W => rn_any pl c d m le sk h0 h1 W
  have zH := sy_size pl d m (pairT pl 2 [115, 112])
  have lH := pairT_le pl 2 [115, 112] (by simp)
  have zH : (sy pl d m (pairT pl 2 [115, 112])).size ≤ 100 := by omega
  clear lH
  generalize hRH : sy pl d m (pairT pl 2 [115, 112]) = RH at *
  have HH := Lib.hid hRH
  clear hRH
  have zW := sy_size pl d m ([257])
  have lW := (show [257].length ≤ 8 by simp)
  have zW : (sy pl d m ([257])).size ≤ 100 := by omega
  clear lW
  generalize hRW : sy pl d m ([257]) = RW at *
  have HW := Lib.hid hRW
  clear hRW
  have zN := sy_size pl d m ([256])
  have lN := (show [256].length ≤ 8 by simp)
  have zN : (sy pl d m ([256])).size ≤ 100 := by omega
  clear lN
  generalize hRN : sy pl d m ([256]) = RN at *
  have HN := Lib.hid hRN
  clear hRN
  have KP2 := Lib.hid kp2
  clear kp2
  have KW := Lib.hid kw
  clear kw
  have KN := Lib.hid kn
  clear kn
  have hr8 := row8_at (⟨#[106, 112, 32]⟩ ++ RW) ⟨#[112, 114, 101, 102, 105, 120]⟩ (⟨#[111, 117, 116, 32, 40]⟩ ++ RN ++ ⟨#[41, 44, 97]⟩) (⟨#[105, 110, 32, 97, 44, 40]⟩ ++ RN ++ ⟨#[41]⟩) (⟨#[101, 120, 32, 40, 115, 112, 41, 44]⟩ ++ RH) ⟨#[101, 120, 32, 100, 101, 44, 104, 108]⟩ ⟨#[100, 105]⟩ ⟨#[101, 105]⟩ y hy
  have hr9 := hr8
  simp only [List.getElem?_toArray] at hr9
  obtain ⟨hr7, hr10⟩ := List.getElem?_eq_some_iff.1 hr9
  clear hr8 hr9
  generalize hRY : row8 (⟨#[106, 112, 32]⟩ ++ RW) ⟨#[112, 114, 101, 102, 105, 120]⟩ (⟨#[111, 117, 116, 32, 40]⟩ ++ RN ++ ⟨#[41, 44, 97]⟩) (⟨#[105, 110, 32, 97, 44, 40]⟩ ++ RN ++ ⟨#[41]⟩) (⟨#[101, 120, 32, 40, 115, 112, 41, 44]⟩ ++ RH) ⟨#[101, 120, 32, 100, 101, 44, 104, 108]⟩ ⟨#[100, 105]⟩ ⟨#[101, 105]⟩ y = RY at *
  have HY := Lib.hid hRY
  clear hRY
  have y0 : 0 ≤ y := hy.1
  have y1 : y < 8 := by omega
  go_enter Tryd.func24, Tryd.ntmps24
  go_wp2_with fail
  refine (KP2.out _).mono ?_
  rintro e w2 ⟨rfl, hb1⟩
  have r1 := (Row.new w 24 #[.int .i64 pl, .int .u8 c, .int .u8 d, .int .u16 m, .int .i64 le, .int .i64 sk]).below hb1 (by simp)
  have HB2 := Lib.hid (((Below.refl _ w).alloc (Nat.le_refl _) _).trans (hb1.mono (by simp)))
  have hs := row6c r1
  have hsz := r1.lt
  clear r1 hb1
  have b0 : ¬ 9223372036854775807 < 3 + RW.size := by omega
  have b1 : ¬ 9223372036854775807 < 5 + RN.size := by omega
  have b2 : ¬ 9223372036854775807 < 5 + RN.size + 3 := by omega
  have b3 : ¬ 9223372036854775807 < 6 + RN.size := by omega
  have b4 : ¬ 9223372036854775807 < 6 + RN.size + 1 := by omega
  have b5 : ¬ 9223372036854775807 < 8 + RH.size := by omega
  have HHY := Lib.hid hy
  clear hp hq hy h0 h1
  go_wp2_with fail
  go_region_with (first
    | (go_at_call 43; refine (KW.out _).mono ?_; rintro e w7 ⟨rfl, hb⟩; have hb := (by first | exact (Below.drew (Below.refl _ w2)).trans hb | exact hb); have hs := keep6r hb hs; have HB2 := Lib.hid (HB2.out.trans (hb.mono HB2.out.size)))
    | (go_at_call 46; refine (KN.out _).mono ?_; rintro e w7 ⟨rfl, hb⟩; have hb := (by first | exact (Below.drew (Below.refl _ w2)).trans hb | exact hb); have hs := keep6r hb hs; have HB2 := Lib.hid (HB2.out.trans (hb.mono HB2.out.size))))
  all_goals go_wp2
  all_goals
    go_ret
    refine ⟨ret_bs ?_, HB2.out.alloc HB2.out.size _⟩
    rw [← HY.out]
    rcases eight y HHY.out with rfl | rfl | rfl | rfl | rfl | rfl | rfl | rfl
    · show _ = sy pl d m ([106, 112, 32] ++ [257])
      simp only [← sy_app, HW.out, HN.out, HH.out]
      all_goals rfl
    · rfl
    · show _ = sy pl d m ([111, 117, 116, 32, 40] ++ [256] ++ [41, 44, 97])
      simp only [← sy_app, HW.out, HN.out, HH.out]
      all_goals rfl
    · show _ = sy pl d m ([105, 110, 32, 97, 44, 40] ++ [256] ++ [41])
      simp only [← sy_app, HW.out, HN.out, HH.out]
      all_goals rfl
    · show _ = sy pl d m ([101, 120, 32, 40, 115, 112, 41, 44] ++ pairT pl 2 [115, 112])
      simp only [← sy_app, HW.out, HN.out, HH.out]
      all_goals rfl
    · rfl
    · rfl
    · rfl
end Go.Proofs.YtgdpafldhmchpaaDoor
