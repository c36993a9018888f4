/- Layer 14 (cells): the document's example. -/
import Derived.Test.YtahnejcfengljaaCellsDiffR
namespace Go.Proofs.Ytahnejcfengljaa
open Go.RowKit
set_option linter.unusedVariables false
set_option linter.unusedSimpArgs false
set_option maxRecDepth 20000

theorem cell_eql (a b c d : Int) (w : World) : (binOp .eql 38 (.agg #[.int .u16 a, .int .u8 b]) (.agg #[.int .u16 c, .int .u8 d])).run Try.prog w = .ok (.bool (a == c && b == d)) w := by
  by_cases h1 : a = c <;> by_cases h2 : b = d <;> simp [go_sem, h1, h2]
theorem bsC2 (a b c d : Int) (w : World) : (Instr.buildSlice 22 2 #[(0, .agg #[.int .u16 a, .int .u8 b]), (1, .agg #[.int .u16 c, .int .u8 d])]).run Try.prog w = .ok (.slice (some ⟨w.heap.size, 0, none⟩) 2 2) (w.alloc (.cells #[.int .u16 a, .int .u8 b, .int .u16 c, .int .u8 d] 38)) := by simp [go_sem]
theorem cell_new2 (w : World) (a b c d : Int) (t : TypeId) : CellsIn (w.alloc (.cells #[.int .u16 a, .int .u8 b, .int .u16 c, .int .u8 d] t)) (w.heap.size + 1) (some ⟨w.heap.size, 0, none⟩) [(a, b), (c, d)] :=
  CellsIn.of_values (by simp) (cells_list_new' w [.int .u16 a, .int .u8 b, .int .u16 c, .int .u8 d] t)
theorem c16_dec {l : List (Int × Int)} (h : (l.all fun c => decide (0 ≤ c.1) && decide (c.1 ≤ 65535) && decide (0 ≤ c.2) && decide (c.2 ≤ 255)) = true) : Cells16 l := fun c hc => by
  have := List.all_eq_true.1 h c hc
  simp only [Bool.and_eq_true, decide_eq_true_eq] at this
  exact ⟨this.1.1.1, this.1.1.2, this.1.2, this.2⟩
theorem caddr0 {w : World} {B : Nat} {A : Option Addr} {c : Int × Int} {r : List (Int × Int)} (h : CellsIn w B A (c :: r)) : ∃ p, A = some p := by
  obtain ⟨p, e, -⟩ := h 0 c rfl
  exact ⟨p, e⟩
theorem awake14_any (w : World) : Calls Try.prog 7 #[] w fun e w' => e = .returned (.bool true) ∧ Below w.heap.size w w' := by
  go_enter Try.func7, Try.ntmps7
  refine coStart <| qQ [] (Many.begin w) fun w1 k1 => coR <| kX (cput_any none 0 [] 5 7 (by decide) (fun _ h => by cases h) ⟨by omega, by omega⟩ ⟨by omega, by omega⟩ w1 (CellsIn.nil _ _ _)) ?_
  rintro e w2 ⟨A1, c1, rfl, hl1, -, hn1, hb2⟩
  rw [show mkS ([] ++ [((5 : Int), (7 : Int))]) = [(5, 7)] from rfl] at hl1 ⊢
  obtain ⟨p1, rfl⟩ := caddr0 hl1
  have hB2 : Below w.heap.size w w2 := k1.touch.below.trans (hb2.mono k1.touch.size)
  refine ⟨_, rfl, qE [] (Many.begin w2) fun w3 k3 => coR <| qR 2 [] k3 fun w4 k4 => ?_⟩
  have hl4 := hl1.below k4.touch.below
  have hy : BytesIn w4 w4.heap.size (some ⟨w3.heap.size, 0, none⟩) [1, 2] := plane_row (k4.row 0 (t := 5) (bvs [1, 2]) (by kernel_rfl))
  refine kX (cload_any (some p1) c1 [(5, 7)] 65535 (some ⟨w3.heap.size, 0, none⟩) 2 [1, 2] (by decide) (c16_dec rfl) ⟨by omega, by omega⟩ (by decide) (fun b hb => by simp at hb; omega) w4 (hl4.more k4.touch.size) hy) ?_
  rintro e w5 ⟨A2, c2, rfl, hm5, -, hn2, hb5⟩
  rw [show mkS ([((5 : Int), (7 : Int))] ++ loadL 65535 [1, 2]) = [(0, 2), (5, 7), (65535, 1)] from rfl] at hm5 ⊢
  obtain ⟨p2, rfl⟩ := caddr0 hm5
  have hl5 := (hl4.more k4.touch.size).below hb5
  have hB5 : Below w.heap.size w w5 := (bOn hB2 k4).trans (hb5.mono (bOn hB2 k4).size)
  refine ⟨_, rfl, qE [] (Many.begin w5) fun w6 k6 => coR <| qR 2 [] k6 fun w7 k7 => ?_⟩
  have hl7 := (hl5.more hb5.size).below k7.touch.below
  have hm7 := hm5.below k7.touch.below
  refine kX (cdiff_any (some p2) c2 [(0, 2), (5, 7), (65535, 1)] (some p1) c1 [(5, 7)] (by decide) (by decide) (c16_dec rfl) (c16_dec rfl) w7 (hm7.more k7.touch.size) (hl7.more k7.touch.size)) ?_
  rintro e w8 ⟨A3, c3, rfl, hd8, -, hn3, hb8⟩
  rw [show diffL [((0 : Int), (2 : Int)), (5, 7), (65535, 1)] [(5, 7)] = [(0, 0), (65535, 0)] from rfl] at hd8 ⊢
  obtain ⟨p3, rfl⟩ := caddr0 hd8
  have hl8 := (hl7.more k7.touch.size).below hb8
  have hm8 := (hm7.more k7.touch.size).below hb8
  have hB8 : Below w.heap.size w w8 := (bOn hB5 k7).trans (hb8.mono (bOn hB5 k7).size)
  have hl8 := hl8.more hb8.size
  have hm8 := hm8.more hb8.size
  refine ⟨_, rfl, qE [] (Many.begin w8) fun w9 k9 => coR <| qR 5 [] k9 fun wa ka => wM (xIndex (cixC p1 1 c1 0 (by decide) _)) <| wM (xLoad ((hl8.below ka.touch.below).ldW (k := 0) (by decide))) <| qR 1 [] ka fun wb kb => wM (xBin (cell_guard _ _ _ 5 7 5 7 _) (cell_eql 5 7 5 7 _)) <| qR 3 [] kb fun wc kc => kX (cput_any (some p1) c1 [(5, 7)] 5 0 (by decide) (c16_dec rfl) ⟨by omega, by omega⟩ ⟨by omega, by omega⟩ wc ((hl8.below kc.touch.below).more kc.touch.size)) ?_⟩
  rintro e wd ⟨A4, c4, rfl, -, -, -, hbd⟩
  have hBd : Below w8.heap.size w8 wd := kc.touch.below.trans (hbd.mono kc.touch.size)
  refine ⟨_, rfl, qR 5 [] (Many.begin wd) fun we ke => kO (cget_any (some p1) c1 [(5, 7)] 5 (by decide) we ((hl8.below (bOn hBd ke)).more (bOn hBd ke).size)) fun wf hf => qR 9 [] (ke.below hf) fun wg kg => wM (xIndex (cixC p2 3 c2 0 (by decide) _)) <| wM (xField (fldC1 (p2.add (0 * 2)) _)) <| wM (xLoad ((hm8.below (bOn hBd kg)).ld1 (k := 0) (by decide))) <| qR 4 [] kg fun wh kh => kX (cdump_any (some p2) c2 [(0, 2), (5, 7), (65535, 1)] 65535 2 (by decide) (c16_dec rfl) ⟨by omega, by omega⟩ wh ((hm8.below (bOn hBd kh)).more (bOn hBd kh).size)) ?_⟩
  rintro e wi ⟨g, rfl, -, hbi⟩
  have hBi : Below w8.heap.size w8 wi := (bOn hBd kh).trans (hbi.mono (bOn hBd kh).size)
  refine ⟨_, rfl, qR 5 [] (Many.begin wi) fun wj kj => kO (ccheck_any (some p2) c2 [(0, 2), (5, 7), (65535, 1)] (by decide) (c16_dec rfl) wj ((hm8.below (bOn hBi kj)).more (bOn hBi kj).size)) fun wk hk => qR 9 [] (kj.below hk) fun wl kl => wM (xIndex (cixC p3 2 c3 0 (by decide) _)) <| wM (xLoad ((hd8.below (bOn hBi kl)).ldW (k := 0) (by decide))) <| qR 1 [] kl fun wm km => wM (xBin (cell_guard _ _ _ 0 0 0 0 _) (cell_eql 0 0 0 0 _)) <| qR 4 [] km fun wn kn => wM (xBuildS (bsC2 1 2 1 0 wn)) <| kX (cmake_any (some ⟨wn.heap.size, 0, none⟩) 2 [(1, 2), (1, 0)] (by decide) (c16_dec rfl) _ ((cell_new2 wn 1 2 1 0 _).more (by simp))) ?_⟩
  rintro e wo ⟨A5, c5, rfl, -, -, -, hbo⟩
  have hBo : Below w.heap.size w wo := by
    have h1 := bOn hBi kn
    have h2 : Below w8.heap.size w8 (wn.alloc _) := bAlloc h1 (.cells #[.int .u16 1, .int .u8 2, .int .u16 1, .int .u8 0] 38)
    exact hB8.trans ((h2.trans (hbo.mono h2.size)).mono hB8.size)
  refine ⟨_, rfl, qE [] (Many.begin wo) fun wp kp => coRet <| eoIr (.bool true) ⟨rfl, bOn hBo kp⟩⟩
end Go.Proofs.Ytahnejcfengljaa
