/- Layer 9 (text): an instruction's text: contracts of choose and Show. -/
import Derived.Test.YtgdpafldhmchpaaDoorTextFill
import Derived.Test.YtgdpafldhmchpaaDoorTextForm
import Derived.Deep.DeepCutAuto
namespace Go.Proofs.YtgdpafldhmchpaaDoor
open Go.RowKit
set_option linter.unusedVariables false
set_option linter.unusedSimpArgs false

set_option maxHeartbeats 1000000 in
theorem tchoose_any (pl c d m le sk : Int) (w : World) :
    Calls Tryd.prog 14 #[nmV pl c d m le sk] w fun e w' => e = .returned (namerV pl c d m le sk) ∧ w' = w.alloc (.cells #[.int .i64 pl, .int .u8 c, .int .u8 d, .int .u16 m, .int .i64 le, .int .i64 sk] 38) := by
  unfold namerV
  by_cases h : pl = 3 ∨ pl = 4
  · rw [if_pos h]
    rcases h with rfl | rfl
    all_goals
      go_enter Tryd.func14, Tryd.ntmps14
      go_wp2
      go_ret
      exact ⟨rfl, rfl⟩
  · rw [if_neg h]
    simp only [not_or] at h
    have e3 : (pl == 3) = false := by simpa using h.1
    have e4 : (pl == 4) = false := by simpa using h.2
    clear h
    go_enter Tryd.func14, Tryd.ntmps14
    go_wp2
    go_ret
    exact ⟨rfl, rfl⟩
theorem namerV_eq (pl c d m le sk : Int) : ∃ fn, namerV pl c d m le sk = .func (.func fn) #[nmV pl c d m le sk] #[] := by
  unfold namerV
  split
  · exact ⟨_, rfl⟩
  · exact ⟨_, rfl⟩
theorem held6 {w w' : World} {B K : Nat} {v0 v1 v2 v3 v4 v5 : Value} (k : Below K w w') (hB : B < K)
    (h : w.cell? ⟨B, 0, none⟩ = some v0 ∧ w.cell? ⟨B, 1, none⟩ = some v1 ∧ w.cell? ⟨B, 2, none⟩ = some v2 ∧ w.cell? ⟨B, 3, none⟩ = some v3 ∧ w.cell? ⟨B, 4, none⟩ = some v4 ∧ w.cell? ⟨B, 5, none⟩ = some v5) :
    w'.cell? ⟨B, 0, none⟩ = some v0 ∧ w'.cell? ⟨B, 1, none⟩ = some v1 ∧ w'.cell? ⟨B, 2, none⟩ = some v2 ∧ w'.cell? ⟨B, 3, none⟩ = some v3 ∧ w'.cell? ⟨B, 4, none⟩ = some v4 ∧ w'.cell? ⟨B, 5, none⟩ = some v5 := by
  have e : ∀ i, w'.cell? ⟨B, i, none⟩ = w.cell? ⟨B, i, none⟩ := fun i => World.cell?_of_block (k.block B hB)
  simp only [e]
  exact h
theorem row12 {w : World} {g : Nat} {t : TypeId} {v0 v1 v2 v3 v4 v5 v6 v7 v8 v9 v10 v11 : Value} (h : Row w g t #[v0, v1, v2, v3, v4, v5, v6, v7, v8, v9, v10, v11]) :
    (w.cell? ⟨g, 0, none⟩ = some v0 ∧ w.cell? ⟨g, 1, none⟩ = some v1 ∧ w.cell? ⟨g, 2, none⟩ = some v2 ∧ w.cell? ⟨g, 3, none⟩ = some v3 ∧ w.cell? ⟨g, 4, none⟩ = some v4 ∧ w.cell? ⟨g, 5, none⟩ = some v5 ∧ w.cell? ⟨g, 6, none⟩ = some v6 ∧ w.cell? ⟨g, 7, none⟩ = some v7 ∧ w.cell? ⟨g, 8, none⟩ = some v8 ∧ w.cell? ⟨g, 9, none⟩ = some v9 ∧ w.cell? ⟨g, 10, none⟩ = some v10 ∧ w.cell? ⟨g, 11, none⟩ = some v11) ∧ ∀ i, w.frozen? ⟨g, i, none⟩ = false :=
  ⟨⟨h.cell 0, h.cell 1, h.cell 2, h.cell 3, h.cell 4, h.cell 5, h.cell 6, h.cell 7, h.cell 8, h.cell 9, h.cell 10, h.cell 11⟩, h.frozen⟩
theorem row_top (W : World) (o : Obj) (t : TypeId) (cs : Array Value) : Row ((W.alloc o).alloc (.cells cs t)).drew (W.heap.size + 1) t cs := by
  have := Row.new (W.alloc o) t cs
  rwa [World.size_alloc] at this
theorem row_under (W : World) (o : Obj) (t : TypeId) (cs : Array Value) : Row ((W.alloc (.cells cs t)).alloc o).drew W.heap.size t cs :=
  (Row.new W t cs).alloc o
theorem cell_of {w : World} {p : Addr} {a b : Option Value} (h : w.cell? p = a) (e : a = b) : w.cell? p = b := h.trans e
theorem fp_b (c : Int) (hc : B8 c) : 0 ≤ fp c ∧ fp c ≤ 3 := by obtain ⟨h0, h1⟩ := hc; unfold fp; omega
theorem fq_b (c : Int) (hc : B8 c) : 0 ≤ fq c ∧ fq c ≤ 1 := by obtain ⟨h0, h1⟩ := hc; unfold fq; omega
theorem form_fin : ∀ (p : Fin 7) (c : Fin 256), ((formF (p.val : Int) (fx (c.val : Int)) (fy (c.val : Int)) (fz (c.val : Int)) (fp (c.val : Int)) (fq (c.val : Int))).all (fun k => decide (k < 256)) && decide ((formF (p.val : Int) (fx (c.val : Int)) (fy (c.val : Int)) (fz (c.val : Int)) (fp (c.val : Int)) (fq (c.val : Int))).length ≤ 16)) = true := by decide +kernel
theorem form_fits (pl c : Int) (hc : B8 c) : (∀ k ∈ formF pl (fx c) (fy c) (fz c) (fp c) (fq c), k < 256) ∧ (formF pl (fx c) (fy c) (fz c) (fp c) (fq c)).length ≤ 16 := by
  by_cases h : 0 ≤ pl ∧ pl ≤ 6
  · have e : ((formF pl (fx c) (fy c) (fz c) (fp c) (fq c)).all (fun k => decide (k < 256)) && decide ((formF pl (fx c) (fy c) (fz c) (fp c) (fq c)).length ≤ 16)) = true := by
      refine byte_all (P := fun c => ((formF pl (fx c) (fy c) (fz c) (fp c) (fq c)).all (fun k => decide (k < 256)) && decide ((formF pl (fx c) (fy c) (fz c) (fp c) (fq c)).length ≤ 16)) = true) (fun x => ?_) c hc.1 hc.2
      have := form_fin ⟨pl.toNat, by omega⟩ x
      rwa [show ((⟨pl.toNat, by omega⟩ : Fin 7).val : Int) = pl by show (pl.toNat : Int) = pl; omega] at this
    rw [Bool.and_eq_true] at e
    exact ⟨fun k hk => by simpa using List.all_eq_true.1 e.1 k hk, by simpa using e.2⟩
  · have e : formF pl (fx c) (fy c) (fz c) (fp c) (fq c) = [63] := by unfold formF; rw [if_neg (by omega), if_neg (by omega), if_neg (by omega), if_neg (by omega)]
    rw [e]
    exact ⟨by decide, by decide⟩
theorem filled_all (pl c : Int) : filled pl (nearM pl c) (fy c) (fz c) (fp c) (formF pl (fx c) (fy c) (fz c) (fp c) (fq c)) (formF pl (fx c) (fy c) (fz c) (fp c) (fq c)).length = showT pl c := by
  unfold filled showT
  rw [List.take_length]
theorem realloc6 {w : World} {o : Obj} (o' : Obj) {B : Nat} {v0 v1 v2 v3 v4 v5 : Value} (hB : B < w.heap.size)
    (h : (w.alloc o).cell? ⟨B, 0, none⟩ = some v0 ∧ (w.alloc o).cell? ⟨B, 1, none⟩ = some v1 ∧ (w.alloc o).cell? ⟨B, 2, none⟩ = some v2 ∧ (w.alloc o).cell? ⟨B, 3, none⟩ = some v3 ∧ (w.alloc o).cell? ⟨B, 4, none⟩ = some v4 ∧ (w.alloc o).cell? ⟨B, 5, none⟩ = some v5) :
    (w.alloc o').cell? ⟨B, 0, none⟩ = some v0 ∧ (w.alloc o').cell? ⟨B, 1, none⟩ = some v1 ∧ (w.alloc o').cell? ⟨B, 2, none⟩ = some v2 ∧ (w.alloc o').cell? ⟨B, 3, none⟩ = some v3 ∧ (w.alloc o').cell? ⟨B, 4, none⟩ = some v4 ∧ (w.alloc o').cell? ⟨B, 5, none⟩ = some v5 := by
  have e : ∀ i, (w.alloc o').cell? ⟨B, i, none⟩ = (w.alloc o).cell? ⟨B, i, none⟩ := fun i => World.cell?_of_block ((Below.heap_alloc w o' B hB).trans (Below.heap_alloc w o B hB).symm)
  simp only [e]
  exact h
set_option maxRecDepth 20000 in
set_option maxHeartbeats 4000000 in
theorem tshow_any (pl c d m le sk : Int) (hc : B8 c) (hd : B8 d) (hm : 0 ≤ m ∧ m ≤ 65535) (w : World) (h : TextTabs w) :
    Calls Tryd.prog 7 #[opV pl c d m le sk] w fun e w' => e = .returned (.string (sy pl d m (showT pl c))) ∧ Below w.heap.size w w' := by
  have bx := fx_b c hc
  have bY := fy_b c hc
  have bz := fz_b c hc
  have kc := Lib.hid (fun W => tchoose_any pl c d m le sk W)
  have kf := Lib.hid (fun W => fields_any c hc W)
  have fK := namerV_eq pl c d m le sk
  obtain ⟨fn, hfn⟩ := fK
  have bp := fp_b c hc
  have bq := fq_b c hc
  have hF := form_fits pl c hc
  have kform := Lib.hid (fun W (hW : Below w.heap.size w W) => tform_any pl c d m le sk (fx c) (fy c) (fz c) (fp c) (fq c) (.func (.func fn) #[nmV pl c d m le sk] #[]) W (h.below hW) bx bY bz bp bq)
  have kfill : ∀ W, Below w.heap.size w W → _ := (fun W (hW : Below w.heap.size w W) => fill_any pl c d m le sk (fx c) (fy c) (fz c) (fp c) (fq c) hc hd hm bY bz bp (formF pl (fx c) (fy c) (fz c) (fp c) (fq c)) hF.1 hF.2 W (h.below hW))
  rw [hfn, filled_all pl c] at kfill
  have kfill := Lib.hid kfill
  clear h hc hd hm
  have kc := kc.out
  rw [hfn] at kc
  have kc := Lib.hid kc
  have HFN := Lib.hid hfn
  clear hfn
  have hR0 := Row.new w 24 #[.int .i64 pl, .int .u8 c, .int .u8 d, .int .u16 m, .int .i64 le, .int .i64 sk]
  have hlt0 := hR0.lt
  have hs : (w.alloc (.cells #[.int .i64 pl, .int .u8 c, .int .u8 d, .int .u16 m, .int .i64 le, .int .i64 sk] 24)).cell? ⟨w.heap.size, 0, none⟩ = some (.int .i64 pl) ∧ (w.alloc (.cells #[.int .i64 pl, .int .u8 c, .int .u8 d, .int .u16 m, .int .i64 le, .int .i64 sk] 24)).cell? ⟨w.heap.size, 1, none⟩ = some (.int .u8 c) ∧ (w.alloc (.cells #[.int .i64 pl, .int .u8 c, .int .u8 d, .int .u16 m, .int .i64 le, .int .i64 sk] 24)).cell? ⟨w.heap.size, 2, none⟩ = some (.int .u8 d) ∧ (w.alloc (.cells #[.int .i64 pl, .int .u8 c, .int .u8 d, .int .u16 m, .int .i64 le, .int .i64 sk] 24)).cell? ⟨w.heap.size, 3, none⟩ = some (.int .u16 m) ∧ (w.alloc (.cells #[.int .i64 pl, .int .u8 c, .int .u8 d, .int .u16 m, .int .i64 le, .int .i64 sk] 24)).cell? ⟨w.heap.size, 4, none⟩ = some (.int .i64 le) ∧ (w.alloc (.cells #[.int .i64 pl, .int .u8 c, .int .u8 d, .int .u16 m, .int .i64 le, .int .i64 sk] 24)).cell? ⟨w.heap.size, 5, none⟩ = some (.int .i64 sk) := ⟨hR0.cell 0, hR0.cell 1, hR0.cell 2, hR0.cell 3, hR0.cell 4, hR0.cell 5⟩
  have hB0 : Below w.heap.size w (w.alloc (.cells #[.int .i64 pl, .int .u8 c, .int .u8 d, .int .u16 m, .int .i64 le, .int .i64 sk] 24)) := (Below.refl _ w).alloc (Nat.le_refl _) _
  have hsz0 : w.heap.size < (w.alloc (.cells #[.int .i64 pl, .int .u8 c, .int .u8 d, .int .u16 m, .int .i64 le, .int .i64 sk] 24)).heap.size := hlt0
  have HR0 := Lib.hid hR0
  have HB0 := Lib.hid hB0
  clear hR0 hB0 hlt0
  go_enter Tryd.func7, Tryd.ntmps7
  go_upto_region 1 with fail
  generalize (w.alloc (.cells #[.int .i64 pl, .int .u8 c, .int .u8 d, .int .u16 m, .int .i64 le, .int .i64 sk] 24)) = W at *
  go_cut [3] (fun s3 wx => ∃ g : Nat, s3 = .pointer (some ⟨g, 0, none⟩) ∧ w.heap.size < g ∧ Row wx g 41 (shC pl c d m le sk 0 0 0 0 0 (.func (.func fn) #[nmV pl c d m le sk] #[])) ∧ Row wx w.heap.size 24 #[.int .i64 pl, .int .u8 c, .int .u8 d, .int .u16 m, .int .i64 le, .int .i64 sk] ∧ Below w.heap.size w wx)
  case first =>
    have x0 := World.new_ne W _ hs.1
    have x1 := World.new_ne W _ hs.2.1
    have x2 := World.new_ne W _ hs.2.2.1
    have x3 := World.new_ne W _ hs.2.2.2.1
    have x4 := World.new_ne W _ hs.2.2.2.2.1
    have x5 := World.new_ne W _ hs.2.2.2.2.2
    go_region_held3 (fun w' => w'.cell? ⟨w.heap.size, 0, none⟩ = some (.int .i64 pl) ∧ w'.cell? ⟨w.heap.size, 1, none⟩ = some (.int .u8 c) ∧ w'.cell? ⟨w.heap.size, 2, none⟩ = some (.int .u8 d) ∧ w'.cell? ⟨w.heap.size, 3, none⟩ = some (.int .u16 m) ∧ w'.cell? ⟨w.heap.size, 4, none⟩ = some (.int .i64 le) ∧ w'.cell? ⟨w.heap.size, 5, none⟩ = some (.int .i64 sk)) (go_keep)
      (first
      | (go_at_call 14; refine (kc.out _).mono ?_; rintro e w1 ⟨rfl, rfl⟩))
    · go_wp2_with fail
      go_meet
      exact ⟨_, rfl, by omega, row_top W _ _ _, (HR0.out.alloc _).alloc _, ((HB0.out.alloc HB0.out.size _).alloc (by have := HB0.out.size; simp; omega) _).drew⟩
    · go_wp2_with fail
      go_meet
      exact ⟨_, rfl, by omega, row_under W _ _ _, (HR0.out.alloc _).alloc _, ((HB0.out.alloc HB0.out.size _).alloc (by have := HB0.out.size; simp; omega) _).drew⟩
  case rest =>
    obtain ⟨g, rfl, hg, hRg, hRo, hB⟩ := hcut
    obtain ⟨⟨g0, g1, g2, g3, g4, g5, g6, g7, g8, g9, g10, g11⟩, gf⟩ := row12 hRg
    have o1 := cell_of (hRo.cell 1) rfl
    have HRg := Lib.hid hRg
    have HRo := Lib.hid hRo
    have HB := Lib.hid hB
    clear hRg hRo hB hs
    go_upto_region 3 with (first
      | (go_at_call 15; refine (kf.out _).mono ?_; rintro e w' ⟨rfl, rfl⟩))
    have hV : Row (((((wc.setCell ⟨g, 6, none⟩ (.int .i64 (fx c))).setCell ⟨g, 7, none⟩ (.int .i64 (fy c))).setCell ⟨g, 8, none⟩ (.int .i64 (fz c))).setCell ⟨g, 9, none⟩ (.int .i64 (fp c))).setCell ⟨g, 10, none⟩ (.int .i64 (fq c))) g 41 (shC pl c d m le sk (fx c) (fy c) (fz c) (fp c) (fq c) (.func (.func fn) #[nmV pl c d m le sk] #[])) := ((((HRg.out.set 6 _).set 7 _).set 8 _).set 9 _).set 10 _
    have hVB : Below w.heap.size w (((((wc.setCell ⟨g, 6, none⟩ (.int .i64 (fx c))).setCell ⟨g, 7, none⟩ (.int .i64 (fy c))).setCell ⟨g, 8, none⟩ (.int .i64 (fz c))).setCell ⟨g, 9, none⟩ (.int .i64 (fp c))).setCell ⟨g, 10, none⟩ (.int .i64 (fq c))) :=
      ((((HB.out.setCell (p := ⟨g, 6, none⟩) (Nat.le_of_lt hg) _).setCell (p := ⟨g, 7, none⟩) (Nat.le_of_lt hg) _).setCell (p := ⟨g, 8, none⟩) (Nat.le_of_lt hg) _).setCell (p := ⟨g, 9, none⟩) (Nat.le_of_lt hg) _).setCell (p := ⟨g, 10, none⟩) (Nat.le_of_lt hg) _
    generalize (((((wc.setCell ⟨g, 6, none⟩ (.int .i64 (fx c))).setCell ⟨g, 7, none⟩ (.int .i64 (fy c))).setCell ⟨g, 8, none⟩ (.int .i64 (fz c))).setCell ⟨g, 9, none⟩ (.int .i64 (fp c))).setCell ⟨g, 10, none⟩ (.int .i64 (fq c))) = V at *
    have gV := hV.lt
    have gV2 : g < V.drew.heap.size := gV
    obtain ⟨hs12, -⟩ := row12 hV
    have HVB := Lib.hid hVB
    clear hV hVB HRg HRo HB g0 g1 g2 g3 g4 g5 g6 g7 g8 g9 g10 g11 gf o1 hg HR0 HB0
    have kform := kform.out
    have kfill := kfill.out
    clear kf
    generalize hR : sy pl d m (showT pl c) = R at *
    have HR := Lib.hid hR
    clear hR
    generalize formF pl (fx c) (fy c) (fz c) (fp c) (fq c) = F at *
    generalize fx c = X at *
    generalize fy c = Y at *
    generalize fz c = Z at *
    generalize fp c = P at *
    generalize fq c = Q at *
    have kform := Lib.hid kform
    have kfill := Lib.hid kfill
    go_region_held3 (fun V' => V'.cell? ⟨g, 0, none⟩ = some (.int .i64 pl) ∧ V'.cell? ⟨g, 1, none⟩ = some (.int .u8 c) ∧ V'.cell? ⟨g, 2, none⟩ = some (.int .u8 d) ∧ V'.cell? ⟨g, 3, none⟩ = some (.int .u16 m) ∧ V'.cell? ⟨g, 4, none⟩ = some (.int .i64 le) ∧ V'.cell? ⟨g, 5, none⟩ = some (.int .i64 sk) ∧ V'.cell? ⟨g, 6, none⟩ = some (.int .i64 X) ∧ V'.cell? ⟨g, 7, none⟩ = some (.int .i64 Y) ∧ V'.cell? ⟨g, 8, none⟩ = some (.int .i64 Z) ∧ V'.cell? ⟨g, 9, none⟩ = some (.int .i64 P) ∧ V'.cell? ⟨g, 10, none⟩ = some (.int .i64 Q) ∧ V'.cell? ⟨g, 11, none⟩ = some (.func (.func fn) #[nmV pl c d m le sk] #[])) (first | with_reducible assumption | with_reducible exact Box12.keep (Below.drew (Below.refl _ _)) gV (by with_reducible assumption) | with_reducible exact Box12.keep hb (by first | exact gV2 | exact hsz) (by with_reducible assumption))
      (first
      | (go_at_call 17; refine (kform.out _ HVB.out.drew).mono ?_; rintro e w1 ⟨rfl, hb⟩; have hsz : g < w1.heap.size := Nat.lt_of_lt_of_le gV hb.size; have HW1 := Lib.hid (HVB.out.drew.trans (hb.mono HVB.out.size)))
      | (go_at_call 16; refine (kfill.out _ HW1.out).mono ?_; rintro e w2 ⟨rfl, hb⟩))
    go_wp2
    go_ret
    exact ⟨ret_bs HR.out.symm, HW1.out.trans (hb.mono HW1.out.size)⟩
end Go.Proofs.YtgdpafldhmchpaaDoor
