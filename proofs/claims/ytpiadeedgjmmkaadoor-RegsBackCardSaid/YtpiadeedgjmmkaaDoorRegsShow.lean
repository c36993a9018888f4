/- Layer 11 (regs): Show: contract. Written by tools/regs.py. -/
import Derived.Test.YtpiadeedgjmmkaaDoorRegsText
import Derived.Test.YtpiadeedgjmmkaaDoorShelfJoin
import Derived.Test.YtpiadeedgjmmkaaDoorRegsShowM
import Derived.Test.YtpiadeedgjmmkaaDoorRegsGet
import Derived.Test.YtpiadeedgjmmkaaDoorOwnHelp
import Derived.Deep.RegionHeld3
import Derived.Maps.AppendAt
import Derived.Laws.OwnMore
import Derived.BigQuiet
import Derived.Deep.DeepCutAuto
import Derived.Deep.QuietTactic
namespace Go.Proofs.YtpiadeedgjmmkaaDoor
open Go.RowKit
set_option linter.unusedVariables false
set_option linter.unusedSimpArgs false

theorem keep14 {w w' : World} {B : Nat} {v0 v1 v2 v3 v4 v5 v6 v7 v8 v9 v10 v11 v12 v13 : Value} (k : Below w.heap.size w w')
    (h : w.cell? ⟨B, 0, none⟩ = some v0 ∧ w.cell? ⟨B, 1, none⟩ = some v1 ∧ w.cell? ⟨B, 2, none⟩ = some v2 ∧ w.cell? ⟨B, 3, none⟩ = some v3 ∧ w.cell? ⟨B, 8, none⟩ = some v4 ∧ w.cell? ⟨B, 9, none⟩ = some v5 ∧ w.cell? ⟨B, 10, none⟩ = some v6 ∧ w.cell? ⟨B, 11, none⟩ = some v7 ∧ w.cell? ⟨B, 13, none⟩ = some v8 ∧ w.cell? ⟨B, 14, none⟩ = some v9 ∧ w.cell? ⟨B, 19, none⟩ = some v10 ∧ w.cell? ⟨B, 15, none⟩ = some v11 ∧ w.cell? ⟨B, 16, none⟩ = some v12 ∧ w.cell? ⟨B, 17, none⟩ = some v13) :
    w'.cell? ⟨B, 0, none⟩ = some v0 ∧ w'.cell? ⟨B, 1, none⟩ = some v1 ∧ w'.cell? ⟨B, 2, none⟩ = some v2 ∧ w'.cell? ⟨B, 3, none⟩ = some v3 ∧ w'.cell? ⟨B, 8, none⟩ = some v4 ∧ w'.cell? ⟨B, 9, none⟩ = some v5 ∧ w'.cell? ⟨B, 10, none⟩ = some v6 ∧ w'.cell? ⟨B, 11, none⟩ = some v7 ∧ w'.cell? ⟨B, 13, none⟩ = some v8 ∧ w'.cell? ⟨B, 14, none⟩ = some v9 ∧ w'.cell? ⟨B, 19, none⟩ = some v10 ∧ w'.cell? ⟨B, 15, none⟩ = some v11 ∧ w'.cell? ⟨B, 16, none⟩ = some v12 ∧ w'.cell? ⟨B, 17, none⟩ = some v13 := by
  obtain ⟨h0, h1, h2, h3, h4, h5, h6, h7, h8, h9, h10, h11, h12, h13⟩ := h
  exact ⟨cell_kept h0 k, cell_kept h1 k, cell_kept h2 k, cell_kept h3 k, cell_kept h4 k, cell_kept h5 k, cell_kept h6 k, cell_kept h7 k, cell_kept h8 k, cell_kept h9 k, cell_kept h10 k, cell_kept h11 k, cell_kept h12 k, cell_kept h13 k⟩
theorem last3of14 {a0 a1 a2 a3 a4 a5 a6 a7 a8 a9 a10 a11 a12 a13 : Prop} (h : a0 ∧ a1 ∧ a2 ∧ a3 ∧ a4 ∧ a5 ∧ a6 ∧ a7 ∧ a8 ∧ a9 ∧ a10 ∧ a11 ∧ a12 ∧ a13) : a11 ∧ a12 ∧ a13 := h.2.2.2.2.2.2.2.2.2.2.2
theorem str_infoN : (Tryd.prog.info? 9).map (fun i => (i.zero, i.size, i.bytes)) = some (some (.string ⟨#[]⟩), 1, 16) := by kernel_rfl
set_option maxRecDepth 20000 in
set_option maxHeartbeats 16000000 in
theorem show_any (g : Rg) (hg : RgB g) (w : World) (ht : NumTabs w) :
    Calls Tryd.prog 20 #[regsV g] w fun e w' => e = .returned (.string ⟨(showG g).toArray⟩) ∧ Below w.heap.size w w' := by
  obtain ⟨i0, hi0, hz0, hz1, hz2⟩ := info_parts str_infoN
  obtain ⟨af, bc, de, hl, af2, bc2, de2, hl2, ix, iy, sp, pc, wz, i, r, iff1, iff2, halted, late, mode⟩ := g
  obtain ⟨b1, b2, b3, b4, b5, b6, b7, b8, b9, b10, b11, b12, b13, b14, b15, b16⟩ := hg
  have kw := Lib.hid (fun n (hn : W16 n) W (hW : Below w.heap.size w W) => tword_any n hn W (ht.below hW))
  have kb : Hid (∀ n (hn : B8 n) W (hW : Below w.heap.size w W), Calls Tryd.prog 33 #[.int .i64 (IntKind.i64.wrap n), .int .i64 2] W fun e w' => e = .returned (.string (byteB n)) ∧ Below W.heap.size W w') := Lib.hid (fun n hn W hW => by
    rw [show IntKind.i64.wrap n = n by have := hn.1; have := hn.2; rw [IntKind.wrap_i64]; omega]
    exact thexB_any n hn W (ht.below hW))
  have kn := Lib.hid (fun W (hW : Below w.heap.size w W) => itoaN_any mode b16 W (ht.below hW))
  have hns := numB_size mode b16
  have HNS := Lib.hid hns
  have HMB := Lib.hid b16
  have hws := wordB_size
  have hbs := byteB_size
  have big : ¬ (9223372036854775807 < 2 + (numB mode).size) := by omega
  have q0 : W16 af := b1
  have q1 : W16 bc := b2
  have q2 : W16 de := b3
  have q3 : W16 hl := b4
  have q4 : W16 ix := b9
  have q5 : W16 iy := b10
  have q6 : W16 sp := b11
  have q7 : W16 pc := b12
  have q8 : B8 i := b14
  have q9 : B8 r := b15
  have q8' := q8.1
  have q8'' := q8.2
  have q9' := q9.1
  have q9'' := q9.2
  clear b1 b2 b3 b4 b5 b6 b7 b8 b9 b10 b11 b12 b13 b14 b15 b16 ht hns
  obtain ⟨cs, hcs⟩ : ∃ cs, cs = (#[.int .u16 af, .int .u16 bc, .int .u16 de, .int .u16 hl, .int .u16 af2, .int .u16 bc2, .int .u16 de2, .int .u16 hl2, .int .u16 ix, .int .u16 iy, .int .u16 sp, .int .u16 pc, .int .u16 wz, .int .u8 i, .int .u8 r, .bool iff1, .bool iff2, .bool halted, .bool late, .int .i64 mode] : Array Value) := ⟨_, rfl⟩
  have HE := Lib.hid hcs
  show Calls _ _ #[.agg (#[.int .u16 af, .int .u16 bc, .int .u16 de, .int .u16 hl, .int .u16 af2, .int .u16 bc2, .int .u16 de2, .int .u16 hl2, .int .u16 ix, .int .u16 iy, .int .u16 sp, .int .u16 pc, .int .u16 wz, .int .u8 i, .int .u8 r, .bool iff1, .bool iff2, .bool halted, .bool late, .int .i64 mode] : Array Value)] _ _
  rw [← hcs]
  clear hcs
  go_enter Tryd.func20, Tryd.ntmps20
  go_upto_region 1 with (fail)
  have rA := Row.new w 24 cs
  have HB := Lib.hid ((Below.refl w.heap.size w).alloc (Nat.le_refl _) (.cells cs 24))
  generalize w.alloc (.cells cs 24) = W0 at *
  rw [HE.out] at rA
  have hs : W0.cell? ⟨w.heap.size, 0, none⟩ = some (.int .u16 af) ∧ W0.cell? ⟨w.heap.size, 1, none⟩ = some (.int .u16 bc) ∧ W0.cell? ⟨w.heap.size, 2, none⟩ = some (.int .u16 de) ∧ W0.cell? ⟨w.heap.size, 3, none⟩ = some (.int .u16 hl) ∧ W0.cell? ⟨w.heap.size, 8, none⟩ = some (.int .u16 ix) ∧ W0.cell? ⟨w.heap.size, 9, none⟩ = some (.int .u16 iy) ∧ W0.cell? ⟨w.heap.size, 10, none⟩ = some (.int .u16 sp) ∧ W0.cell? ⟨w.heap.size, 11, none⟩ = some (.int .u16 pc) ∧ W0.cell? ⟨w.heap.size, 13, none⟩ = some (.int .u8 i) ∧ W0.cell? ⟨w.heap.size, 14, none⟩ = some (.int .u8 r) ∧ W0.cell? ⟨w.heap.size, 19, none⟩ = some (.int .i64 mode) ∧ W0.cell? ⟨w.heap.size, 15, none⟩ = some (.bool iff1) ∧ W0.cell? ⟨w.heap.size, 16, none⟩ = some (.bool iff2) ∧ W0.cell? ⟨w.heap.size, 17, none⟩ = some (.bool halted) := ⟨rA.cell 0, rA.cell 1, rA.cell 2, rA.cell 3, rA.cell 8, rA.cell 9, rA.cell 10, rA.cell 11, rA.cell 13, rA.cell 14, rA.cell 19, rA.cell 15, rA.cell 16, rA.cell 17⟩
  have rA := Lib.hid rA
  have HB0 := HB
  clear HB
  have HB := Lib.hid (Below.refl W0.heap.size W0)
  have kw2 := Lib.hid (fun n (hn : W16 n) W (hW : Below W0.heap.size W0 W) => kw.out n hn W (HB0.out.trans (hW.mono HB0.out.size)))
  have kb2 := Lib.hid (fun n (hn : B8 n) W (hW : Below W0.heap.size W0 W) => kb.out n hn W (HB0.out.trans (hW.mono HB0.out.size)))
  have kn2 := Lib.hid (fun W (hW : Below W0.heap.size W0 W) => kn.out W (HB0.out.trans (hW.mono HB0.out.size)))
  clear kw kb kn
  go_cut [3] (fun s3 wx => wx.ownsRow (w.heap.size + 1) 9 1 s3 11 [Value.string (⟨#[97, 102, 61]⟩ ++ wordB af : ByteArray), Value.string (⟨#[98, 99, 61]⟩ ++ wordB bc : ByteArray), Value.string (⟨#[100, 101, 61]⟩ ++ wordB de : ByteArray), Value.string (⟨#[104, 108, 61]⟩ ++ wordB hl : ByteArray), Value.string (⟨#[105, 120, 61]⟩ ++ wordB ix : ByteArray), Value.string (⟨#[105, 121, 61]⟩ ++ wordB iy : ByteArray), Value.string (⟨#[115, 112, 61]⟩ ++ wordB sp : ByteArray), Value.string (⟨#[112, 99, 61]⟩ ++ wordB pc : ByteArray), Value.string (⟨#[105, 61]⟩ ++ byteB i : ByteArray), Value.string (⟨#[114, 61]⟩ ++ byteB r : ByteArray), Value.string (⟨#[105, 109]⟩ ++ numB mode : ByteArray)] ∧ (wx.cell? ⟨w.heap.size, 15, none⟩ = some (.bool iff1) ∧ wx.cell? ⟨w.heap.size, 16, none⟩ = some (.bool iff2) ∧ wx.cell? ⟨w.heap.size, 17, none⟩ = some (.bool halted)) ∧ Below w.heap.size w wx)
  case first =>
    go_region_held3 (fun w' => w'.cell? ⟨w.heap.size, 0, none⟩ = some (.int .u16 af) ∧ w'.cell? ⟨w.heap.size, 1, none⟩ = some (.int .u16 bc) ∧ w'.cell? ⟨w.heap.size, 2, none⟩ = some (.int .u16 de) ∧ w'.cell? ⟨w.heap.size, 3, none⟩ = some (.int .u16 hl) ∧ w'.cell? ⟨w.heap.size, 8, none⟩ = some (.int .u16 ix) ∧ w'.cell? ⟨w.heap.size, 9, none⟩ = some (.int .u16 iy) ∧ w'.cell? ⟨w.heap.size, 10, none⟩ = some (.int .u16 sp) ∧ w'.cell? ⟨w.heap.size, 11, none⟩ = some (.int .u16 pc) ∧ w'.cell? ⟨w.heap.size, 13, none⟩ = some (.int .u8 i) ∧ w'.cell? ⟨w.heap.size, 14, none⟩ = some (.int .u8 r) ∧ w'.cell? ⟨w.heap.size, 19, none⟩ = some (.int .i64 mode) ∧ w'.cell? ⟨w.heap.size, 15, none⟩ = some (.bool iff1) ∧ w'.cell? ⟨w.heap.size, 16, none⟩ = some (.bool iff2) ∧ w'.cell? ⟨w.heap.size, 17, none⟩ = some (.bool halted)) (first | with_reducible assumption | exact hs | with_reducible exact keep14 hb (by with_reducible assumption) | with_reducible exact keep14 (Below.alloc (Below.refl _ _) (Nat.le_refl _) _) (by with_reducible assumption)) (first
      | (go_at_call 32; refine (kw2.out _ (by with_reducible assumption) _ (by first | exact HB.out | exact HB.out.drew)).mono ?_; rintro e w' ⟨rfl, hb⟩; have HB := Lib.hid (show Below W0.heap.size W0 w' from (show Below W0.heap.size W0 _ from (by first | exact HB.out | exact HB.out.drew)).trans (hb.mono (by first | exact HB.out.size | exact HB.out.drew.size))))
      | (go_at_call 33; refine (kb2.out _ (by with_reducible assumption) _ (by first | exact HB.out | exact HB.out.drew)).mono ?_; rintro e w' ⟨rfl, hb⟩; have HB := Lib.hid (show Below W0.heap.size W0 w' from (show Below W0.heap.size W0 _ from (by first | exact HB.out | exact HB.out.drew)).trans (hb.mono (by first | exact HB.out.size | exact HB.out.drew.size))))
      | (go_at_call 34; refine (kn2.out _ (by first | exact HB.out | exact HB.out.drew)).mono ?_; rintro e w' ⟨rfl, hb⟩; have HB := Lib.hid (show Below W0.heap.size W0 w' from (show Below W0.heap.size W0 _ from (by first | exact HB.out | exact HB.out.drew)).trans (hb.mono (by first | exact HB.out.size | exact HB.out.drew.size)))))
    go_wp2_with fail
    go_meet
    have hlt : w.heap.size + 1 ≤ w'.heap.size := Nat.lt_of_lt_of_le rA.out.lt HB.out.size
    exact ⟨World.ownsRow_lit w' _ 11 hlt (by decide) rfl, last3of14 (by with_reducible assumption), HB0.out.trans ((HB.out.alloc HB.out.size _).mono HB0.out.size)⟩
  case rest =>
    obtain ⟨hown, ⟨c15, c16, c17⟩, hB⟩ := hcut
    obtain ⟨N, hN⟩ : ∃ N : Nat, N = 11 := ⟨_, rfl⟩
    obtain ⟨XS, hXS⟩ : ∃ XS : List Value, XS = [Value.string (⟨#[97, 102, 61]⟩ ++ wordB af : ByteArray), Value.string (⟨#[98, 99, 61]⟩ ++ wordB bc : ByteArray), Value.string (⟨#[100, 101, 61]⟩ ++ wordB de : ByteArray), Value.string (⟨#[104, 108, 61]⟩ ++ wordB hl : ByteArray), Value.string (⟨#[105, 120, 61]⟩ ++ wordB ix : ByteArray), Value.string (⟨#[105, 121, 61]⟩ ++ wordB iy : ByteArray), Value.string (⟨#[115, 112, 61]⟩ ++ wordB sp : ByteArray), Value.string (⟨#[112, 99, 61]⟩ ++ wordB pc : ByteArray), Value.string (⟨#[105, 61]⟩ ++ byteB i : ByteArray), Value.string (⟨#[114, 61]⟩ ++ byteB r : ByteArray), Value.string (⟨#[105, 109]⟩ ++ numB mode : ByteArray)] := ⟨_, rfl⟩
    rw [← hXS, ← hN] at hown
    have HX := Lib.hid hXS
    have hN' : N ≤ 11 := by omega
    have HV := Lib.hid hown
    have HB := Lib.hid hB
    clear hown hB hXS hN HE rA hs hws hbs big q0 q1 q2 q3 q4 q5 q6 q7 q8 q9 q8' q8'' q9' q9'' kw2 kb2 kn2
    have hsz : w.heap.size + 1 ≤ wc.heap.size := World.block_lt_of_cell? _ _ c15
    go_upto_if 52 with (fail)
    go_cut [3] (fun s3 wx => wx.ownsRow (w.heap.size + 1) 9 1 s3 (N + (maybe iff1 ⟨#[105, 102, 102, 49]⟩).length) (XS ++ maybe iff1 ⟨#[105, 102, 102, 49]⟩) ∧ (wx.cell? ⟨w.heap.size, 15, none⟩ = some (.bool iff1) ∧ wx.cell? ⟨w.heap.size, 16, none⟩ = some (.bool iff2) ∧ wx.cell? ⟨w.heap.size, 17, none⟩ = some (.bool halted)) ∧ Below w.heap.size w wx)
    case first =>
      by_cases hv : iff1 = true
      · rw [hv]
        have em : maybe iff1 ⟨#[105, 102, 102, 49]⟩ = [.string ⟨#[105, 102, 102, 49]⟩] := by rw [hv]; rfl
        have EM := Lib.hid em
        have HC := Lib.hid (And.intro c15 (And.intro c16 c17))
        clear em hv c15 c16 c17
        have ownA := HV.out.alloc (.cells #[.string ⟨#[105, 102, 102, 49]⟩] 9)
        have hnews := cells_list_new' wc [.string ⟨#[105, 102, 102, 49]⟩] 9
        have HBa := Lib.hid (HB.out.alloc HB.out.size (.cells #[.string ⟨#[105, 102, 102, 49]⟩] 9))
        go_wp2_with (at_builtin; refine wpList_append_own_at _ rfl (.tmp 53) (.tmp 54) _ rfl (w.heap.size + 1) 9 i0 _ 1 16 Tryd.underlying52 hi0 hz0 hz1 hz2 rfl (by omega) _ N XS rfl ownA ⟨wc.heap.size, 0, none⟩ 1 1 [.string ⟨#[105, 102, 102, 49]⟩] rfl rfl hnews (by intro u hu; simp at hu; rcases hu with rfl; rfl) (by simp only [maxLen]; omega) (by omega) (by simp; omega) ?_; intro v1 w4 hown4 hg4 hni4 hat4)
        have d15 := grown_cell (cell_under wc _ HC.out.1) hg4 ownA (Nat.lt_succ_self _)
        have d16 := grown_cell (cell_under wc _ HC.out.2.1) hg4 ownA (Nat.lt_succ_self _)
        have d17 := grown_cell (cell_under wc _ HC.out.2.2) hg4 ownA (Nat.lt_succ_self _)
        have B4 := grown_below HBa.out hg4 ownA (Nat.le_succ _)
        go_meet
        exact ⟨by rw [EM.out]; exact hown4, ⟨d15, d16, d17⟩, B4⟩
      · have hf : iff1 = false := by simpa using hv
        rw [hf]
        have em : maybe iff1 ⟨#[105, 102, 102, 49]⟩ = [] := by rw [hf]; rfl
        have EM := Lib.hid em
        have HC := Lib.hid (And.intro c15 (And.intro c16 c17))
        clear em hv hf c15 c16 c17
        go_wp2_with fail
        go_meet
        exact ⟨by rw [EM.out, List.append_nil]; exact HV.out, HC.out, HB.out⟩
    case rest =>
      clear c15 c16 c17 HV HB hsz
      obtain ⟨hown, ⟨c15, c16, c17⟩, hB⟩ := hcut
      have hml := maybe_len iff1 ⟨#[105, 102, 102, 49]⟩
      obtain ⟨N', hN2⟩ : ∃ N' : Nat, N' = N + (maybe iff1 ⟨#[105, 102, 102, 49]⟩).length := ⟨_, rfl⟩
      obtain ⟨XS', hXS'⟩ : ∃ XS' : List Value, XS' = XS ++ maybe iff1 ⟨#[105, 102, 102, 49]⟩ := ⟨_, rfl⟩
      rw [← hXS', ← hN2] at hown
      have hN3 : N' ≤ 12 := by omega
      have HX' := Lib.hid (hXS'.trans (by rw [HX.out]))
      clear hN2 hXS' hml hN' HX
      have hN' := hN3
      have HX := HX'
      clear hN3 HX'
      have HV := Lib.hid hown
      have HB := Lib.hid hB
      clear hown hB
      obtain ⟨N, rfl⟩ : ∃ N : Nat, N = N' := ⟨_, rfl⟩
      obtain ⟨XS, rfl⟩ : ∃ XS : List Value, XS = XS' := ⟨_, rfl⟩
      have hsz : w.heap.size + 1 ≤ wc.heap.size := World.block_lt_of_cell? _ _ c16
      go_upto_if 57 with (fail)
      go_cut [3] (fun s3 wx => wx.ownsRow (w.heap.size + 1) 9 1 s3 (N + (maybe iff2 ⟨#[105, 102, 102, 50]⟩).length) (XS ++ maybe iff2 ⟨#[105, 102, 102, 50]⟩) ∧ (wx.cell? ⟨w.heap.size, 15, none⟩ = some (.bool iff1) ∧ wx.cell? ⟨w.heap.size, 16, none⟩ = some (.bool iff2) ∧ wx.cell? ⟨w.heap.size, 17, none⟩ = some (.bool halted)) ∧ Below w.heap.size w wx)
      case first =>
        by_cases hv : iff2 = true
        · rw [hv]
          have em : maybe iff2 ⟨#[105, 102, 102, 50]⟩ = [.string ⟨#[105, 102, 102, 50]⟩] := by rw [hv]; rfl
          have EM := Lib.hid em
          have HC := Lib.hid (And.intro c15 (And.intro c16 c17))
          clear em hv c15 c16 c17
          have ownA := HV.out.alloc (.cells #[.string ⟨#[105, 102, 102, 50]⟩] 9)
          have hnews := cells_list_new' wc [.string ⟨#[105, 102, 102, 50]⟩] 9
          have HBa := Lib.hid (HB.out.alloc HB.out.size (.cells #[.string ⟨#[105, 102, 102, 50]⟩] 9))
          go_wp2_with (at_builtin; refine wpList_append_own_at _ rfl (.tmp 58) (.tmp 59) _ rfl (w.heap.size + 1) 9 i0 _ 1 16 Tryd.underlying52 hi0 hz0 hz1 hz2 rfl (by omega) _ N XS rfl ownA ⟨wc.heap.size, 0, none⟩ 1 1 [.string ⟨#[105, 102, 102, 50]⟩] rfl rfl hnews (by intro u hu; simp at hu; rcases hu with rfl; rfl) (by simp only [maxLen]; omega) (by omega) (by simp; omega) ?_; intro v1 w4 hown4 hg4 hni4 hat4)
          have d15 := grown_cell (cell_under wc _ HC.out.1) hg4 ownA (Nat.lt_succ_self _)
          have d16 := grown_cell (cell_under wc _ HC.out.2.1) hg4 ownA (Nat.lt_succ_self _)
          have d17 := grown_cell (cell_under wc _ HC.out.2.2) hg4 ownA (Nat.lt_succ_self _)
          have B4 := grown_below HBa.out hg4 ownA (Nat.le_succ _)
          go_meet
          exact ⟨by rw [EM.out]; exact hown4, ⟨d15, d16, d17⟩, B4⟩
        · have hf : iff2 = false := by simpa using hv
          rw [hf]
          have em : maybe iff2 ⟨#[105, 102, 102, 50]⟩ = [] := by rw [hf]; rfl
          have EM := Lib.hid em
          have HC := Lib.hid (And.intro c15 (And.intro c16 c17))
          clear em hv hf c15 c16 c17
          go_wp2_with fail
          go_meet
          exact ⟨by rw [EM.out, List.append_nil]; exact HV.out, HC.out, HB.out⟩
      case rest =>
        clear c15 c16 c17 HV HB hsz
        obtain ⟨hown, ⟨c15, c16, c17⟩, hB⟩ := hcut
        have hml := maybe_len iff2 ⟨#[105, 102, 102, 50]⟩
        obtain ⟨N', hN2⟩ : ∃ N' : Nat, N' = N + (maybe iff2 ⟨#[105, 102, 102, 50]⟩).length := ⟨_, rfl⟩
        obtain ⟨XS', hXS'⟩ : ∃ XS' : List Value, XS' = XS ++ maybe iff2 ⟨#[105, 102, 102, 50]⟩ := ⟨_, rfl⟩
        rw [← hXS', ← hN2] at hown
        have hN3 : N' ≤ 13 := by omega
        have HX' := Lib.hid (hXS'.trans (by rw [HX.out]))
        clear hN2 hXS' hml hN' HX
        have hN' := hN3
        have HX := HX'
        clear hN3 HX'
        have HV := Lib.hid hown
        have HB := Lib.hid hB
        clear hown hB
        obtain ⟨N, rfl⟩ : ∃ N : Nat, N = N' := ⟨_, rfl⟩
        obtain ⟨XS, rfl⟩ : ∃ XS : List Value, XS = XS' := ⟨_, rfl⟩
        have hsz : w.heap.size + 1 ≤ wc.heap.size := World.block_lt_of_cell? _ _ c17
        go_upto_if 62 with (fail)
        go_cut [3] (fun s3 wx => wx.ownsRow (w.heap.size + 1) 9 1 s3 (N + (maybe halted ⟨#[104, 97, 108, 116]⟩).length) (XS ++ maybe halted ⟨#[104, 97, 108, 116]⟩) ∧ (wx.cell? ⟨w.heap.size, 15, none⟩ = some (.bool iff1) ∧ wx.cell? ⟨w.heap.size, 16, none⟩ = some (.bool iff2) ∧ wx.cell? ⟨w.heap.size, 17, none⟩ = some (.bool halted)) ∧ Below w.heap.size w wx)
        case first =>
          by_cases hv : halted = true
          · rw [hv]
            have em : maybe halted ⟨#[104, 97, 108, 116]⟩ = [.string ⟨#[104, 97, 108, 116]⟩] := by rw [hv]; rfl
            have EM := Lib.hid em
            have HC := Lib.hid (And.intro c15 (And.intro c16 c17))
            clear em hv c15 c16 c17
            have ownA := HV.out.alloc (.cells #[.string ⟨#[104, 97, 108, 116]⟩] 9)
            have hnews := cells_list_new' wc [.string ⟨#[104, 97, 108, 116]⟩] 9
            have HBa := Lib.hid (HB.out.alloc HB.out.size (.cells #[.string ⟨#[104, 97, 108, 116]⟩] 9))
            go_wp2_with (at_builtin; refine wpList_append_own_at _ rfl (.tmp 63) (.tmp 64) _ rfl (w.heap.size + 1) 9 i0 _ 1 16 Tryd.underlying52 hi0 hz0 hz1 hz2 rfl (by omega) _ N XS rfl ownA ⟨wc.heap.size, 0, none⟩ 1 1 [.string ⟨#[104, 97, 108, 116]⟩] rfl rfl hnews (by intro u hu; simp at hu; rcases hu with rfl; rfl) (by simp only [maxLen]; omega) (by omega) (by simp; omega) ?_; intro v1 w4 hown4 hg4 hni4 hat4)
            have d15 := grown_cell (cell_under wc _ HC.out.1) hg4 ownA (Nat.lt_succ_self _)
            have d16 := grown_cell (cell_under wc _ HC.out.2.1) hg4 ownA (Nat.lt_succ_self _)
            have d17 := grown_cell (cell_under wc _ HC.out.2.2) hg4 ownA (Nat.lt_succ_self _)
            have B4 := grown_below HBa.out hg4 ownA (Nat.le_succ _)
            go_meet
            exact ⟨by rw [EM.out]; exact hown4, ⟨d15, d16, d17⟩, B4⟩
          · have hf : halted = false := by simpa using hv
            rw [hf]
            have em : maybe halted ⟨#[104, 97, 108, 116]⟩ = [] := by rw [hf]; rfl
            have EM := Lib.hid em
            have HC := Lib.hid (And.intro c15 (And.intro c16 c17))
            clear em hv hf c15 c16 c17
            go_wp2_with fail
            go_meet
            exact ⟨by rw [EM.out, List.append_nil]; exact HV.out, HC.out, HB.out⟩
        case rest =>
          clear c15 c16 c17 HV HB hsz
          obtain ⟨hown, ⟨c15, c16, c17⟩, hB⟩ := hcut
          have hml := maybe_len halted ⟨#[104, 97, 108, 116]⟩
          obtain ⟨N', hN2⟩ : ∃ N' : Nat, N' = N + (maybe halted ⟨#[104, 97, 108, 116]⟩).length := ⟨_, rfl⟩
          obtain ⟨XS', hXS'⟩ : ∃ XS' : List Value, XS' = XS ++ maybe halted ⟨#[104, 97, 108, 116]⟩ := ⟨_, rfl⟩
          rw [← hXS', ← hN2] at hown
          have hN3 : N' ≤ 14 := by omega
          have HX' := Lib.hid (hXS'.trans (by rw [HX.out]))
          clear hN2 hXS' hml hN' HX
          have hN' := hN3
          have HX := HX'
          clear hN3 HX'
          have HV := Lib.hid hown
          have HB := Lib.hid hB
          clear hown hB
          obtain ⟨N, rfl⟩ : ∃ N : Nat, N = N' := ⟨_, rfl⟩
          obtain ⟨XS, rfl⟩ : ∃ XS : List Value, XS = XS' := ⟨_, rfl⟩
          have hbe : XS = (showBs ⟨af, bc, de, hl, af2, bc2, de2, hl2, ix, iy, sp, pc, wz, i, r, iff1, iff2, halted, late, mode⟩).map Value.string := by
            rw [HX.out]
            unfold showBs
            simp only [maybe_eq, List.map_append, List.map_cons, List.map_nil]
          have hln : N = (showBs ⟨af, bc, de, hl, af2, bc2, de2, hl2, ix, iy, sp, pc, wz, i, r, iff1, iff2, halted, late, mode⟩).length := by
            have := HV.out.1
            rw [hbe, List.length_map] at this
            omega
          have hBl := showBs_len ⟨af, bc, de, hl, af2, bc2, de2, hl2, ix, iy, sp, pc, wz, i, r, iff1, iff2, halted, late, mode⟩
          have hBp := showBs_pos ⟨af, bc, de, hl, af2, bc2, de2, hl2, ix, iy, sp, pc, wz, i, r, iff1, iff2, halted, late, mode⟩
          have hIt := showBs_items ⟨af, bc, de, hl, af2, bc2, de2, hl2, ix, iy, sp, pc, wz, i, r, iff1, iff2, halted, late, mode⟩
          have hGl := showG_len ⟨af, bc, de, hl, af2, bc2, de2, hl2, ix, iy, sp, pc, wz, i, r, iff1, iff2, halted, late, mode⟩ HMB.out
          obtain ⟨g8, cap8, h8, hc8, hg8, hcell8⟩ := own_all HV.out (by omega)
          have hj : Calls Tryd.prog 35 #[.slice (some ⟨g8, 0, none⟩) N cap8, .string ⟨#[32]⟩] wc fun e w' => e = .returned (.string ⟨(showG ⟨af, bc, de, hl, af2, bc2, de2, hl2, ix, iy, sp, pc, wz, i, r, iff1, iff2, halted, late, mode⟩).toArray⟩) ∧ Below wc.heap.size wc w' := by
            have hk := Sh.strings_Join g8 0 cap8 (showBs ⟨af, bc, de, hl, af2, bc2, de2, hl2, ix, iy, sp, pc, wz, i, r, iff1, iff2, halted, late, mode⟩) ⟨#[32]⟩ wc (fun j x hx => by
              rw [Nat.zero_add, hcell8 j (by rw [hln]; exact (List.getElem?_eq_some_iff.1 hx).1), hbe, List.getElem?_map, hx]
              rfl) hg8 (by omega) (by omega) (by rw [hIt]; show (showG ⟨af, bc, de, hl, af2, bc2, de2, hl2, ix, iy, sp, pc, wz, i, r, iff1, iff2, halted, late, mode⟩).length ≤ _; omega)
            rw [hIt, ← hln] at hk
            exact hk
          have HJ := Lib.hid hj
          have H8 := Lib.hid h8
          clear hbe hln hBl hBp hIt hGl h8 hc8 hg8 hcell8 hj c15 c16 c17 hN' HX HV
          rw [H8.out]
          go_wp2_with fail
          refine HJ.out.mono ?_
          rintro e w9 ⟨rfl, hb9⟩
          have HB9 := Lib.hid (HB.out.trans (hb9.mono HB.out.size))
          clear hb9
          go_wp2
          go_ret
          exact ⟨rfl, HB9.out⟩
end Go.Proofs.YtpiadeedgjmmkaaDoor
