/- Layer 9 (text): the walk of the law of texts of their own. -/
import Derived.Test.YtgdpafldhmchpaaDoorTextAwake
import Derived.Test.YtgdpafldhmchpaaDoorTextOwnMath
import Derived.Test.YtgdpafldhmchpaaDoorDecodeBare
import Derived.OneCell
import Derived.Deep.DeepCutAuto
namespace Go.Proofs.YtgdpafldhmchpaaDoor
open Go.RowKit
set_option linter.unusedVariables false
set_option linter.unusedSimpArgs false

/-- the codes below c that are no prefixes -/
def bareL (c : Nat) : List Nat := (List.range c).filter fun k => !pre4 k
def seenB (d m : Int) (k : Nat) : ByteArray := sy 0 d m (showT 0 (k : Int))
def seenCs (d m : Int) (c : Nat) : List Value := (bareL c).map fun k => .string (seenB d m k)
theorem bareL_yes (c : Nat) (h : pre4 c = false) : bareL (c + 1) = bareL c ++ [c] := by
  unfold bareL
  rw [List.range_succ, List.filter_append]
  simp [h]
theorem bareL_no (c : Nat) (h : pre4 c = true) : bareL (c + 1) = bareL c := by
  unfold bareL
  rw [List.range_succ, List.filter_append]
  simp [h]
theorem bareL_256 : (bareL 256).length = 252 := by decide +kernel
theorem bareL_le (c : Nat) : (bareL c).length ≤ c := by
  unfold bareL
  exact Nat.le_trans (List.length_filter_le _ _) (by simp)
theorem bareL_mem {c k : Nat} (h : k ∈ bareL c) : k < c ∧ pre4 k = false := by
  unfold bareL at h
  rw [List.mem_filter] at h
  exact ⟨by simpa using h.1, by simpa using h.2⟩
theorem bare_pre : ∀ c : Fin 256, bareM 0 (c.val : Int) = !pre4 c.val := by decide +kernel
theorem sy_list (p d m : Int) (l : List Nat) : (sy p d m l).toList = say p d m l := by
  rw [ByteArray.toList_eq]
  unfold sy
  simp
theorem sy_ne {d m : Int} (hm : 0 ≤ m ∧ m ≤ 65535) {c k : Nat} (hc : c < 256) (hk : k ∈ bareL c) (h : pre4 c = false) : ((seenB d m k).toList == (sy 0 d m (showT 0 (c : Int))).toList) = false := by
  obtain ⟨h1, h2⟩ := bareL_mem hk
  unfold seenB
  rw [beq_eq_false_iff_ne, sy_list, sy_list]
  exact own_differ d m hm c k hc h1 h h2
theorem sy_full (p c d m : Int) (hp : 0 ≤ p ∧ p ≤ 6) (hc : B8 c) : (sy p d m (showT p c)).toList.isEmpty = false := by
  rw [sy_list]
  cases e : say p d m (showT p c) with
  | nil => exact absurd e (show_ne p c d m hp hc)
  | cons => rfl
theorem run_at (l : List UInt8) (j : Nat) (hj : j < l.length) (W : World) : (Instr.index 9 (.string ⟨l.toArray⟩) (.int .i64 (j : Int))).run Tryd.prog W = .ok (.int .u8 ((l[j]'hj).toNat : Int)) W := by
  rw [run_index_string (h := Tryd.underlying9), dif_pos ⟨by omega, by rw [la_size]; omega⟩]
  rfl
theorem xy_size (d m c : Int) (hc : B8 c) : (sy 3 d m (showT 3 c)).size = (sy 4 d m (showT 4 c)).size := by
  unfold sy
  rw [la_size, la_size]
  exact (show_alike c d m hc).len
theorem at_xy (d m c : Int) (hc : B8 c) (j : Nat) (hj : j < (sy 3 d m (showT 3 c)).size) : ∃ a b : Int,
    (∀ W : World, (Instr.index 9 (.string (sy 3 d m (showT 3 c))) (.int .i64 (j : Int))).run Tryd.prog W = .ok (.int .u8 a) W) ∧
    (∀ W : World, (Instr.index 9 (.string (sy 4 d m (showT 4 c))) (.int .i64 (j : Int))).run Tryd.prog W = .ok (.int .u8 b) W) ∧ (a = b ∨ (a = 120 ∧ b = 121)) := by
  have h2 : j < (sy 4 d m (showT 4 c)).size := by rw [← xy_size d m c hc]; exact hj
  unfold sy at hj h2
  rw [la_size] at hj h2
  refine ⟨_, _, fun W => run_at _ j hj W, fun W => run_at _ j h2 W, ?_⟩
  rcases (show_alike c d m hc).at_ j hj h2 with e | ⟨e1, e2⟩
  · exact .inl (by rw [e])
  · exact .inr ⟨by rw [e1]; rfl, by rw [e2]; rfl⟩
theorem row6o {w : World} {g : Nat} {t : TypeId} {v0 v1 v2 v3 v4 v5 : Value} (h : Row w g t #[v0, v1, v2, v3, v4, v5]) :
    w.cell? ⟨g, 0, none⟩ = some v0 ∧ w.cell? ⟨g, 1, none⟩ = some v1 ∧ w.cell? ⟨g, 2, none⟩ = some v2 ∧ w.cell? ⟨g, 3, none⟩ = some v3 ∧ w.cell? ⟨g, 4, none⟩ = some v4 ∧ w.cell? ⟨g, 5, none⟩ = some v5 :=
  ⟨h.cell 0, h.cell 1, h.cell 2, h.cell 3, h.cell 4, h.cell 5⟩
theorem short_fin : ∀ c : Fin 256, decide ((showT 3 (c.val : Int)).length ≤ 100) = true := by decide +kernel
theorem show_short (c : Int) (hc : B8 c) : (showT 3 c).length ≤ 100 := by
  have := byte_all (P := fun c => decide ((showT 3 c).length ≤ 100) = true) short_fin c hc.1 hc.2
  simpa using this
/-- a row of the call's own, as a slice -/
theorem own_any {W : World} {b : Nat} {e : TypeId} {v : Value} {n : Nat} {xs : List Value} (h : W.ownsRow b e 1 v n xs) : ∃ A cap, v = .slice A n cap ∧ ∀ j, j < n → ∃ g, A = some ⟨g, 0, none⟩ ∧ W.cell? ⟨g, j, none⟩ = xs[j]? := by
  rcases h.2 with ⟨rfl, rfl⟩ | ⟨g, cap, cur, rfl, -⟩
  · exact ⟨none, 0, rfl, fun j hj => by omega⟩
  · exact ⟨_, cap, rfl, fun j hj => ⟨g, rfl, h.cellAt j (by omega)⟩⟩
set_option maxRecDepth 20000 in
set_option maxHeartbeats 8000000 in
theorem textOwn_walk (d m : Int) (d0 : 0 ≤ d) (d1 : d ≤ 255) (h0 : 0 ≤ m) (h1 : m ≤ 65535) (w : World) (ht : TextTabs w) :
    Calls Tryd.prog 5 #[.int .u8 d, .int .u16 m] w fun e w' => e = .returned (.bool true) ∧ Below w.heap.size w w' := by
  obtain ⟨i0, hi0, hz0, hz1, hz2⟩ := info_parts str_info
  have ka := Lib.hid (tawake_any w ht)
  have ks := Lib.hid (fun p c (hc : B8 c) W (hW : Below w.heap.size w W) => tshow_any p c d m 0 0 hc ⟨d0, d1⟩ ⟨h0, h1⟩ W (ht.below hW))
  have HM := Lib.hid (show 0 ≤ m ∧ m ≤ 65535 from ⟨h0, h1⟩)
  clear ht d0 d1 h0 h1
  go_enter Tryd.func5, Tryd.ntmps5
  go_wp2_with fail
  refine ka.out.mono ?_
  rintro e w1 ⟨rfl, hb1⟩
  have HB1 := Lib.hid hb1
  clear hb1
  go_wp2
  go_loopw [6, 7] (fun ts tc wr => ∃ c : Nat, c ≤ 256 ∧ tc = .int .i64 (c : Int) ∧ wr.ownsRow w.heap.size 9 1 ts (bareL c).length (seenCs d m c) ∧ Below w.heap.size w wr) (fun _ tc _ => 256 - (intOf tc).toNat)
  case atStart => exact ⟨0, by omega, rfl, World.ownsRow_nil _ _ _ _, HB1.out⟩
  case round =>
    obtain ⟨c, hc, rfl, hv, hB⟩ := hrel
    have HB := Lib.hid hB
    have HV := Lib.hid hv
    clear hB hv
    by_cases hlt : c < 256
    · have hc8 : B8 (c : Int) := ⟨by omega, by omega⟩
      have n0 : (0 : Int) ≤ (c : Int) := by omega
      have n1 : (c : Int) < 256 := by omega
      have n2 : IntKind.u8.wrap (c : Int) = (c : Int) := by rw [IntKind.wrap_u8]; omega
      have k0 := Lib.hid (ks.out 0 (c : Int) hc8)
      have k3 := Lib.hid (ks.out 3 (c : Int) hc8)
      have k4 := Lib.hid (ks.out 4 (c : Int) hc8)
      have kb := Lib.hid (fun W => bare_any 0 (c : Int) d m 0 0 W)
      have hlc := bareL_le c
      go_upto_region 9 with (fail)
      have HB0 := Lib.hid (HB.out.alloc HB.out.size (.cells #[.int .i64 0, .int .u8 (c : Int), .int .u8 d, .int .u16 m, .int .i64 0, .int .i64 0] 24))
      have R0 := Lib.hid (Row.new wr 24 #[.int .i64 0, .int .u8 (c : Int), .int .u8 d, .int .u16 m, .int .i64 0, .int .i64 0])
      have V0 := Lib.hid (HV.out.alloc (.cells #[.int .i64 0, .int .u8 (c : Int), .int .u8 d, .int .u16 m, .int .i64 0, .int .i64 0] 24))
      have hg : w.heap.size ≤ wr.heap.size := HB.out.size
      generalize wr.alloc (.cells #[.int .i64 0, .int .u8 (c : Int), .int .u8 d, .int .u16 m, .int .i64 0, .int .i64 0] 24) = W0 at *
      obtain ⟨o0, o1, o2, o3, o4, o5⟩ := row6o R0.out
      go_wp2_with fail
      refine (kb.out _).mono ?_
      rintro e w2 ⟨rfl, hb2⟩
      have R2 := Lib.hid (R0.out.below hb2 R0.out.lt)
      have HB2 := Lib.hid (HB0.out.trans (hb2.mono HB0.out.size))
      have V2 := Lib.hid (own_below V0.out hb2)
      clear o0 o1 o2 o3 o4 o5 hb2
      obtain ⟨o0, o1, o2, o3, o4, o5⟩ := row6o R2.out
      go_wp2_with fail
      refine (k0.out _ HB2.out).mono ?_
      rintro e w3 ⟨rfl, hb3⟩
      have R3 := Lib.hid (R2.out.below hb3 R2.out.lt)
      have HB3 := Lib.hid (HB2.out.trans (hb3.mono HB2.out.size))
      have V3 := Lib.hid (own_below V2.out hb3)
      clear o0 o1 o2 o3 o4 o5 hb3
      have hem := sy_full 0 (c : Int) d m (by omega) hc8
      have hsn := Lib.hid (fun k (hk : k ∈ bareL c) (hp : pre4 c = false) => sy_ne (d := d) HM.out hlt hk hp)
      have hsb := Lib.hid (show seenB d m c = sy 0 d m (showT 0 (c : Int)) from rfl)
      have hbp := bare_pre ⟨c, hlt⟩
      simp only at hbp
      generalize sy 0 d m (showT 0 (c : Int)) = S at *
      generalize bareM 0 (c : Int) = bb at *
      have HBP := Lib.hid hbp
      clear hbp k0 kb
      go_upto_if 33 with (fail)
      go_cut [6] (fun s6 wx => wx.ownsRow w.heap.size 9 1 s6 (bareL (c + 1)).length (seenCs d m (c + 1)) ∧ Row wx wr.heap.size 24 #[.int .i64 0, .int .u8 (c : Int), .int .u8 d, .int .u16 m, .int .i64 0, .int .i64 0] ∧ s6.ownBlock ≠ some wr.heap.size ∧ Below w.heap.size w wx)
      case first =>
        have hbp := HBP.out
        cases hp : pre4 c with
        | true =>
          rw [hp] at hbp
          subst hbp
          have hno := bareL_no c hp
          have V4 := Lib.hid (show w3.ownsRow w.heap.size 9 1 u6 (bareL (c + 1)).length (seenCs d m (c + 1)) by rw [seenCs, hno]; exact V3.out)
          clear hno hp
          go_wp2_with fail
          go_meet
          exact ⟨V4.out, R3.out, fun e => by have := (HV.out.lt _ e).2; omega, HB3.out⟩
        | false =>
          rw [hp] at hbp
          subst hbp
          have hye := Lib.hid (bareL_yes c hp)
          have hsn := Lib.hid (fun k hk => hsn.out k hk hp)
          clear hp
          obtain ⟨A6, cap6, rfl, hcell⟩ := own_any V3.out
          have HCL := Lib.hid hcell
          have hnl : (bareL c).length ≤ c := hlc
          have hel := Lib.hid (fun (j : Nat) (hj : j < (bareL c).length) => (show (seenCs d m c)[j]? = some (.string (seenB d m (bareL c)[j])) by simp [seenCs, hj]))
          have hmem := Lib.hid (fun (j : Nat) (hj : j < (bareL c).length) => List.getElem_mem hj)
          clear hcell
          go_upto_region 15 with (fail)
          go_loop [11] (fun ti => ∃ j : Nat, j ≤ (bareL c).length ∧ ti = .int .i64 (j : Int)) (fun ti => (bareL c).length - (intOf ti).toNat)
          case atStart => exact ⟨0, Nat.zero_le _, rfl⟩
          case round =>
            obtain ⟨j, hj, rfl⟩ := hrel
            by_cases hjl : j < (bareL c).length
            · obtain ⟨g6, rfl, hcj⟩ := HCL.out j hjl
              rw [hel.out j hjl] at hcj
              have hnn := hsn.out _ (hmem.out j hjl)
              generalize seenB d m (bareL c)[j] = T at *
              have hj0 : (0 : Int) ≤ (j : Int) := by omega
              have hj1 : (j : Int) < ((bareL c).length : Int) := by omega
              go_wp2
              go_round
              case rel => exact ⟨j + 1, by omega, by go_num⟩
              case measure => simp [intOf]; omega
            · obtain rfl : j = (bareL c).length := by omega
              have ownA := V3.out.alloc (.cells #[.string S] 9)
              have hnews := cells_list_new' w3 [.string S] 9
              have hB3 := HB3.out.alloc HB3.out.size (.cells #[.string S] 9)
              have hsz3 := HB3.out.size
              have HR3 := Lib.hid (R3.out.alloc (.cells #[.string S] 9))
              have hvlt := Lib.hid (fun b hb => HV.out.lt b hb)
              go_wp2_with (at_builtin; refine wpList_append_own_at _ rfl (.tmp 46) (.tmp 48) _ rfl w.heap.size 9 i0 _ 1 16 Tryd.underlying29 hi0 hz0 hz1 hz2 rfl (by omega) (.slice A6 (bareL c).length cap6) (bareL c).length (seenCs d m c) rfl ownA ⟨w3.heap.size, 0, none⟩ 1 1 [.string S] rfl rfl hnews (by intro u hu; simp at hu; rcases hu with rfl; rfl) (by simp only [maxLen]; omega) (by omega) (by simp; omega) ?_; intro v1 w4 hown4 hg4 hni4 hat4)
              have hr4 : Row w4 wr.heap.size 24 #[.int .i64 0, .int .u8 (c : Int), .int .u8 d, .int .u16 m, .int .i64 0, .int .i64 0] := (hg4.block wr.heap.size (by have := R3.out.lt; simp; omega) (fun e => by have := (hvlt.out _ e.symm).2; omega)).trans HR3.out
              have hso : seenCs d m (c + 1) = seenCs d m c ++ [.string S] := by
                unfold seenCs
                rw [hye.out, List.map_append, List.map_cons, List.map_nil, hsb.out]
              have hln : (bareL (c + 1)).length = (bareL c).length + 1 := by rw [hye.out]; simp
              have own4 : w4.ownsRow w.heap.size 9 1 v1 (bareL (c + 1)).length (seenCs d m (c + 1)) := by
                rw [hso, hln]
                exact hown4
              have B4 := grown_below hB3 hg4 ownA (Nat.le_refl _)
              go_meet
              exact ⟨own4, hr4, fun e => by
                rcases hat4 with h | h
                · rw [h] at e
                  have := (hvlt.out _ e).2
                  omega
                · rw [h] at e
                  have e := Option.some.inj e
                  have := R3.out.lt
                  simp only [World.size_alloc] at e
                  omega, B4⟩
      case rest =>
        obtain ⟨hv4, hr4, hn4, hB4⟩ := hcut
        have V4 := Lib.hid hv4
        have R4 := Lib.hid hr4
        have HB4 := Lib.hid hB4
        have HN4 := Lib.hid hn4
        clear hv4 hr4 hB4 hn4
        obtain ⟨o0, o1, o2, o3, o4, o5⟩ := row6o R4.out
        have of := R4.out.frozen 0
        go_upto_region 21 with (fail)
        have R5 := Lib.hid (show Row (wc.setCell ⟨wr.heap.size, 0, none⟩ (.int .i64 3)) wr.heap.size 24 #[.int .i64 3, .int .u8 (c : Int), .int .u8 d, .int .u16 m, .int .i64 0, .int .i64 0] from R4.out.set 0 _)
        have V5 := Lib.hid (ownsRow_setCell_other V4.out (a := ⟨wr.heap.size, 0, none⟩) HN4.out (.int .i64 3))
        have HB5 := Lib.hid (HB4.out.setCell (p := ⟨wr.heap.size, 0, none⟩) hg (.int .i64 3))
        clear o0 o1 o2 o3 o4 o5 of
        generalize wc.setCell ⟨wr.heap.size, 0, none⟩ (.int .i64 3) = W5 at *
        obtain ⟨o0, o1, o2, o3, o4, o5⟩ := row6o R5.out
        go_wp2_with fail
        refine (k3.out _ HB5.out).mono ?_
        rintro e w6 ⟨rfl, hb6⟩
        have R6 := Lib.hid (R5.out.below hb6 R5.out.lt)
        have HB6 := Lib.hid (HB5.out.trans (hb6.mono HB5.out.size))
        have V6 := Lib.hid (own_below V5.out hb6)
        clear o0 o1 o2 o3 o4 o5 hb6
        obtain ⟨o0, o1, o2, o3, o4, o5⟩ := row6o R6.out
        have of := R6.out.frozen 0
        go_upto_region 23 with (fail)
        have R7 := Lib.hid (show Row (w6.setCell ⟨wr.heap.size, 0, none⟩ (.int .i64 4)) wr.heap.size 24 #[.int .i64 4, .int .u8 (c : Int), .int .u8 d, .int .u16 m, .int .i64 0, .int .i64 0] from R6.out.set 0 _)
        have V7 := Lib.hid (ownsRow_setCell_other V6.out (a := ⟨wr.heap.size, 0, none⟩) HN4.out (.int .i64 4))
        have HB7 := Lib.hid (HB6.out.setCell (p := ⟨wr.heap.size, 0, none⟩) hg (.int .i64 4))
        clear o0 o1 o2 o3 o4 o5 of
        generalize w6.setCell ⟨wr.heap.size, 0, none⟩ (.int .i64 4) = W7 at *
        obtain ⟨o0, o1, o2, o3, o4, o5⟩ := row6o R7.out
        go_wp2_with fail
        refine (k4.out _ HB7.out).mono ?_
        rintro e w8 ⟨rfl, hb8⟩
        have HB8 := Lib.hid (HB7.out.trans (hb8.mono HB7.out.size))
        have V8 := Lib.hid (own_below V7.out hb8)
        clear o0 o1 o2 o3 o4 o5 hb8
        go_upto_region 24 with (fail)
        have hxy := xy_size d m (c : Int) hc8
        have hat := Lib.hid (at_xy d m (c : Int) hc8)
        have hxz : (sy 3 d m (showT 3 (c : Int))).size ≤ 8 * (showT 3 (c : Int)).length := by unfold sy; rw [la_size]; exact say_le 3 d m _
        have hxl : (showT 3 (c : Int)).length ≤ 100 := show_short (c : Int) hc8
        have hx8 : (sy 3 d m (showT 3 (c : Int))).size ≤ 800 := by omega
        clear hxz hxl k3 k4
        generalize sy 3 d m (showT 3 (c : Int)) = X at *
        generalize sy 4 d m (showT 4 (c : Int)) = Y at *
        have hxb : ((X.size : Int) == (Y.size : Int)) = true := by rw [hxy]; simp
        have HXY := Lib.hid hxy
        clear hxy
        go_upto_region 26 with (fail)
        go_wp2
        go_loopw [14] (fun ti wx => ∃ j n : Nat, j ≤ X.size ∧ ti = .int .i64 (j : Int) ∧ wx = w8.drewN n) (fun ti _ => X.size - (intOf ti).toNat)
        case atStart => exact ⟨0, 0, Nat.zero_le _, rfl, rfl⟩
        case round =>
          obtain ⟨j, n, hj, rfl, rfl⟩ := hrel
          by_cases hjl : j < X.size
          · obtain ⟨a, b, hX, hY, hab⟩ := hat.out j hjl
            have hjy : j < Y.size := by rw [← HXY.out]; exact hjl
            have hj0 : (0 : Int) ≤ (j : Int) := by omega
            have hj1 : (j : Int) < (X.size : Int) := by omega
            have hj2 : (j : Int) < (Y.size : Int) := by omega
            rcases hab with rfl | ⟨rfl, rfl⟩
            · go_upto_region 29 with (fail)
              go_quiet (fail)
              go_wp2
              go_roundw
              case rel => exact ⟨j + 1, _, by omega, by go_num, rfl⟩
              case measure => simp [intOf]; omega
            · go_upto_region 29 with (fail)
              go_quiet (fail)
              go_wp2
              go_roundw
              case rel => exact ⟨j + 1, _, by omega, by go_num, rfl⟩
              case measure => simp [intOf]; omega
          · obtain rfl : j = X.size := by omega
            go_wp2
            exact ⟨⟨c + 1, by omega, by go_num, V8.out, bel_drewN HB8.out n⟩, by simp [intOf]; omega⟩
    · obtain rfl : c = 256 := by omega
      have hv := HV.out
      rw [bareL_256] at hv
      obtain ⟨A, cap, rfl, -⟩ := own_any hv
      clear hv HV
      go_wp2
      go_ret
      exact ⟨rfl, HB.out⟩
end Go.Proofs.YtgdpafldhmchpaaDoor
