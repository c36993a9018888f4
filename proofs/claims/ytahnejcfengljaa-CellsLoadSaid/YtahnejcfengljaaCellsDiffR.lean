/- Layer 14 (cells): the document's own Diff. -/
import Derived.Test.YtahnejcfengljaaCellsDiff
namespace Go.Proofs.Ytahnejcfengljaa
open Go.RowKit
set_option linter.unusedVariables false
set_option linter.unusedSimpArgs false
set_option maxRecDepth 20000

theorem markL_take (l : List (Int × Int)) (k : Nat) (h : k < l.length) : markL (l.take (k + 1)) = markL (l.take k) ++ [(l[k].1, 1)] := by
  unfold markL
  rw [take_snoc l k h, List.map_append]
  rfl
theorem markL_length (l : List (Int × Int)) : (markL l).length = l.length := by simp [markL]
theorem diffP_snoc (a b m : List (Int × Int)) (c : Int × Int) : diffP a b (m ++ [c]) = diffP a b m ++ (if (getC a c.1 != getC b c.1) = true then [(c.1, getC b c.1)] else []) := by
  unfold diffP
  rw [List.filter_append, List.map_append]
  congr 1
  by_cases h : (getC a c.1 != getC b c.1) = true
  · have e : ([c].filter fun p => getC a p.1 != getC b p.1) = [c] := List.filter_eq_self.2 fun p hp => by rw [List.mem_singleton.1 hp]; exact h
    rw [if_pos h, e]; rfl
  · have e : ([c].filter fun p => getC a p.1 != getC b p.1) = [] := List.filter_eq_nil_iff.2 fun p hp => by rw [List.mem_singleton.1 hp]; exact h
    rw [if_neg h, e]; rfl
theorem diffP_len (a b m : List (Int × Int)) : (diffP a b m).length ≤ m.length := by
  unfold diffP
  rw [List.length_map]
  exact List.length_filter_le _ _
def rdB1 (A : Option Addr) (n cap : Nat) (A' : Option Addr) (n' cap' : Nat) (x : LoopO) : List Value := [.slice A n cap, .slice A' n' cap', x.y 2, x.y 3, x.y 4, x.v, .int .i64 (x.k : Int), x.y 7, x.y 8, x.y 9, x.y 10, x.y 11, x.y 12, x.y 13, x.y 14, x.y 15, x.y 16, x.y 17, x.y 18, x.y 19, x.y 20, x.y 21, x.y 22, x.y 23, x.y 24, x.y 25, x.y 26, x.y 27, x.y 28, x.y 29, x.y 30, x.y 31, x.y 32, x.y 33, x.y 34, x.y 35, x.y 36, x.y 37, x.y 38, x.y 39, x.y 40, x.y 41, x.y 42, x.y 43, x.y 44, x.y 45, x.y 46, x.y 47, x.y 48, x.y 49, x.y 50, x.y 51, x.y 52, x.y 53, x.y 54, x.y 55, x.y 56, x.y 57, x.y 58, x.y 59, x.y 60, x.y 61, x.y 62, x.y 63, x.y 64, x.y 65, x.y 66, x.y 67, x.y 68, x.y 69]
def rdB2 (A : Option Addr) (n cap : Nat) (A' : Option Addr) (n' cap' : Nat) (x : LoopO) : List Value := [.slice A n cap, .slice A' n' cap', x.y 2, x.y 3, x.y 4, x.v, x.y 6, .int .i64 (x.k : Int), x.y 8, x.y 9, x.y 10, x.y 11, x.y 12, x.y 13, x.y 14, x.y 15, x.y 16, x.y 17, x.y 18, x.y 19, x.y 20, x.y 21, x.y 22, x.y 23, x.y 24, x.y 25, x.y 26, x.y 27, x.y 28, x.y 29, x.y 30, x.y 31, x.y 32, x.y 33, x.y 34, x.y 35, x.y 36, x.y 37, x.y 38, x.y 39, x.y 40, x.y 41, x.y 42, x.y 43, x.y 44, x.y 45, x.y 46, x.y 47, x.y 48, x.y 49, x.y 50, x.y 51, x.y 52, x.y 53, x.y 54, x.y 55, x.y 56, x.y 57, x.y 58, x.y 59, x.y 60, x.y 61, x.y 62, x.y 63, x.y 64, x.y 65, x.y 66, x.y 67, x.y 68, x.y 69]
def rdB3 (A : Option Addr) (n cap : Nat) (A' : Option Addr) (n' cap' : Nat) (M : Option Addr) (nm cm : Nat) (x : LoopO) : List Value := [.slice A n cap, .slice A' n' cap', x.y 2, x.y 3, x.y 4, .slice M nm cm, x.y 6, x.y 7, x.v, .int .i64 (x.k : Int), x.y 10, x.y 11, x.y 12, x.y 13, x.y 14, x.y 15, x.y 16, x.y 17, x.y 18, x.y 19, x.y 20, x.y 21, x.y 22, x.y 23, x.y 24, x.y 25, x.y 26, x.y 27, x.y 28, x.y 29, x.y 30, x.y 31, x.y 32, x.y 33, x.y 34, x.y 35, x.y 36, x.y 37, x.y 38, x.y 39, x.y 40, x.y 41, x.y 42, x.y 43, x.y 44, x.y 45, x.y 46, x.y 47, x.y 48, x.y 49, x.y 50, x.y 51, x.y 52, x.y 53, x.y 54, x.y 55, x.y 56, x.y 57, x.y 58, x.y 59, x.y 60, x.y 61, x.y 62, x.y 63, x.y 64, x.y 65, x.y 66, x.y 67, x.y 68, x.y 69]
def rdI1 (w : World) (a : List (Int × Int)) (x : LoopO) (W : World) : Prop := Below w.heap.size w W ∧ W.ownsRow w.heap.size 38 2 x.v x.k (cvs (markL (a.take x.k))) ∧ x.k ≤ a.length
def rdI2 (w : World) (a b : List (Int × Int)) (x : LoopO) (W : World) : Prop := Below w.heap.size w W ∧ W.ownsRow w.heap.size 38 2 x.v (a.length + x.k) (cvs (markL a ++ markL (b.take x.k))) ∧ x.k ≤ b.length
def rdI3 (w w0 : World) (a b m : List (Int × Int)) (x : LoopO) (W : World) : Prop := Below w.heap.size w W ∧ Below w0.heap.size w0 W ∧ W.ownsRow w0.heap.size 38 2 x.v (diffP a b (m.take x.k)).length (cvs (diffP a b (m.take x.k))) ∧ x.k ≤ m.length
theorem rcdiff_any (A : Option Addr) (cap : Nat) (a : List (Int × Int)) (A' : Option Addr) (cap' : Nat) (b : List (Int × Int)) (hl : a.length ≤ 10000000) (hl' : b.length ≤ 10000000) (h16 : Cells16 a) (h16' : Cells16 b) (w : World) (hin : CellsIn w w.heap.size A a) (hin' : CellsIn w w.heap.size A' b) :
    Calls Try.prog 22 #[.slice A a.length cap, .slice A' b.length cap'] w (Gives w (diffL a b)) := by
  go_enter Try.func22, Try.ntmps22
  refine coStart <| qQ [] (Many.begin w) fun w1 k1 => qQ [] k1 fun w2 k2 => coS <| qQ [] k2 fun w3 k3 => coB <| coLoop (rdB1 A a.length cap A' b.length cap') (rdI1 w a) (fun x => a.length - x.k) (fun y => ⟨0, .slice none 0 0, y⟩) ⟨k3.touch.below, World.ownsRow_nil .., Nat.zero_le _⟩ ?_
  rintro ⟨k, v, y⟩ W ⟨hB, hown, hk⟩
  have hk : k ≤ a.length := hk
  have hown : W.ownsRow w.heap.size 38 2 v k (cvs (markL (a.take k))) := hown
  refine coS <| qQ [] (Many.begin W) fun wa ka => coI (decide ((k : Int) < (a.length : Int))) (fun hlt => coSkip <| eoT <| coS <| coB <| ?_) fun hge => coX <| eoTx <| eoTx <| eoBx <| eoT ?_
  · have hlt : k < a.length := by have : (k : Int) < (a.length : Int) := by simpa using hlt
                                  omega
    obtain ⟨p, rfl, -⟩ := hin.at_ hlt
    refine coZ <| qR 3 [] ka fun wb kb => wM (xIndex (cixC p a.length cap k hlt _)) <| wM (xField (fldC0 (p.add (k * 2)) _)) <| wM (xLoad ((hin.below (bOn hB kb)).ld0 hlt)) <| qR 1 [] kb fun wc kc => wM (xBuildS (bsC a[k].1 1 wc)) <| qAc (.tmp 17) (.tmp 24) w.heap.size _ v k (markL (a.take k)) (some ⟨wc.heap.size, 0, none⟩) 1 [(a[k].1, 1)] (bAlloc (bOn hB kc) _).size ((own_below hown kc.touch.below).alloc _) (ccell_new wc _ _ _) (fun e => by cases e) (by show k + 1 ≤ _; omega) fun v' wd own' g' => ?_
    have hBd := below_own (bAlloc (bOn hB kc) _) g' ((own_below hown kc.touch.below).alloc _) (Nat.le_refl _) (bAlloc (bOn hB kc) _).size
    refine qF [] (Many.begin wd) fun we ke => eoB <| eoT <| coZ <| qR 1 [] ke fun wf kf => wM (xInc k (by omega)) <| qF [] kf fun wg kg => eoRound (fun y => ⟨k + 1, v', y⟩) ⟨bOn hBd kg, ?_, hlt⟩ (by show a.length - (k + 1) < a.length - k; omega)
    show wg.ownsRow _ _ _ v' (k + 1) (cvs (markL (a.take (k + 1))))
    rw [markL_take a k hlt]
    exact own_below own' kg.touch.below
  have hkl : k = a.length := by have : ¬ ((k : Int) < (a.length : Int)) := by simpa using hge
                                omega
  subst hkl
  rw [List.take_length] at hown
  refine coS <| qQ [] ka fun w4 k4 => coB <| coLoop (rdB2 A a.length cap A' b.length cap') (rdI2 w a b) (fun x => b.length - x.k) (fun y => ⟨0, v, y⟩) ⟨bOn hB k4, ?_, Nat.zero_le _⟩ ?_
  · show w4.ownsRow _ _ _ v (a.length + 0) (cvs (markL a ++ markL (b.take 0)))
    have := own_below hown k4.touch.below
    simpa [markL] using this
  clear k4 ka hge hk hown hB
  rintro ⟨k, v, y⟩ W ⟨hB, hown, hk⟩
  have hk : k ≤ b.length := hk
  have hown : W.ownsRow w.heap.size 38 2 v (a.length + k) (cvs (markL a ++ markL (b.take k))) := hown
  refine coS <| qQ [] (Many.begin W) fun wa ka => coI (decide ((k : Int) < (b.length : Int))) (fun hlt => coSkip <| eoT <| coS <| coB <| ?_) fun hge => coX <| eoTx <| eoTx <| eoBx <| eoT ?_
  · have hlt : k < b.length := by have : (k : Int) < (b.length : Int) := by simpa using hlt
                                  omega
    obtain ⟨p, rfl, -⟩ := hin'.at_ hlt
    refine coZ <| qR 3 [] ka fun wb kb => wM (xIndex (cixC p b.length cap' k hlt _)) <| wM (xField (fldC0 (p.add (k * 2)) _)) <| wM (xLoad ((hin'.below (bOn hB kb)).ld0 hlt)) <| qR 1 [] kb fun wc kc => wM (xBuildS (bsC b[k].1 1 wc)) <| qAc (.tmp 32) (.tmp 39) w.heap.size _ v (a.length + k) (markL a ++ markL (b.take k)) (some ⟨wc.heap.size, 0, none⟩) 1 [(b[k].1, 1)] (bAlloc (bOn hB kc) _).size ((own_below hown kc.touch.below).alloc _) (ccell_new wc _ _ _) (fun e => by cases e) (by show a.length + k + 1 ≤ _; omega) fun v' wd own' g' => ?_
    have hBd := below_own (bAlloc (bOn hB kc) _) g' ((own_below hown kc.touch.below).alloc _) (Nat.le_refl _) (bAlloc (bOn hB kc) _).size
    refine qF [] (Many.begin wd) fun we ke => eoB <| eoT <| coZ <| qR 1 [] ke fun wf kf => wM (xInc k (by omega)) <| qF [] kf fun wg kg => eoRound (fun y => ⟨k + 1, v', y⟩) ⟨bOn hBd kg, ?_, hlt⟩ (by show b.length - (k + 1) < b.length - k; omega)
    show wg.ownsRow _ _ _ v' (a.length + (k + 1)) (cvs (markL a ++ markL (b.take (k + 1))))
    rw [markL_take b k hlt, ← List.append_assoc]
    exact own_below own' kg.touch.below
  have hkl : k = b.length := by have : ¬ ((k : Int) < (b.length : Int)) := by simpa using hge
                                omega
  subst hkl
  rw [List.take_length] at hown
  have e7 : a.length + b.length = (markL a ++ markL b).length := by rw [List.length_append, markL_length, markL_length]
  rw [e7] at hown
  refine coR <| qR 1 [] ka fun wb kb => ?_
  obtain ⟨A9, c9, rfl, hc9, hci9, hn9⟩ := own_cslice (own_below hown kb.touch.below)
  refine kX (rcmake_any A9 c9 (markL a ++ markL b) (by rw [← e7]; omega) (c16_append (c16_markL h16) (c16_markL h16')) wb hci9) ?_
  rintro e wc ⟨M, cm, rfl, g1, g2, g3, g4⟩
  have hBc : Below w.heap.size w wc := (bOn hB kb).trans (g4.mono (bOn hB kb).size)
  obtain ⟨m, hm⟩ : ∃ m, m = mkS (markL a ++ markL b) := ⟨_, rfl⟩
  have hlm : m.length ≤ a.length + b.length := by rw [hm, e7]; exact len_mkS _
  have hdm : diffP a b m = diffL a b := by rw [hm]; rfl
  have h16m : Cells16 m := by rw [hm]; exact c16_mkS (c16_append (c16_markL h16) (c16_markL h16'))
  rw [← hm] at g1 g2 ⊢
  refine ⟨_, rfl, qE [] (Many.begin wc) fun wd kd => qQ [] kd fun we ke => coS <| qQ [] ke fun wf kf => coB <| coLoop (rdB3 A a.length cap A' b.length cap' M m.length cm) (rdI3 w wc a b m) (fun x => m.length - x.k) (fun y => ⟨0, .slice none 0 0, y⟩) ⟨bOn hBc kf, kf.touch.below, World.ownsRow_nil .., Nat.zero_le _⟩ ?_⟩
  clear hown hB ka kb kd ke kf hge hk g4 hci9 hc9 hn9
  rintro ⟨k, v, y⟩ W ⟨hB, hB2, hown, hk⟩
  have hk : k ≤ m.length := hk
  have hB2 : Below wc.heap.size wc W := hB2
  have hown : W.ownsRow wc.heap.size 38 2 v (diffP a b (m.take k)).length (cvs (diffP a b (m.take k))) := hown
  refine coS <| qQ [] (Many.begin W) fun wa ka => coI (decide ((k : Int) < (m.length : Int))) (fun hlt => coSkip <| eoT <| coS <| coB <| ?_) fun hge => coX <| eoTx <| eoTx <| eoBx <| eoT ?_
  · have hlt : k < m.length := by have : (k : Int) < (m.length : Int) := by simpa using hlt
                                  omega
    obtain ⟨p, rfl, -⟩ := g1.at_ hlt
    have hsn := diffP_snoc a b (m.take k) m[k]
    rw [← take_snoc m k hlt] at hsn
    have hdl := diffP_len a b (m.take k)
    rw [List.length_take, Nat.min_eq_left hk] at hdl
    refine coR <| qR 2 [] ka fun wb kb => wM (xIndex (cixC p m.length cm k hlt _)) <| wM (xField (fldC0 (p.add (k * 2)) _)) <| wM (xLoad ((g1.below (bOn hB2 kb)).ld0 hlt)) <| qE [] kb fun wd kd => coR <| qR 2 [] kd fun we ke => kO (rcget_any A cap a m[k].1 (by omega) _ ((hin.below (bOn hB ke)).more (bOn hB ke).size)) fun wf hf => qR 2 [] (ke.below hf) fun wg kg => kO (rcget_any A' cap' b m[k].1 (by omega) _ ((hin'.below (bOn hB kg)).more (bOn hB kg).size)) fun wh hh => qE [] (kg.below hh) fun wi ki => coI (getC a m[k].1 != getC b m[k].1) (fun h => ?_) fun h => coSkip <| eoB <| eoT <| coZ <| qR 1 [] ki fun wj kj => wM (xInc k (by omega)) <| qF [] kj fun wl kl => eoRound (fun y => ⟨k + 1, v, y⟩) ⟨bOn hB kl, bOn hB2 kl, ?_, hlt⟩ (by show m.length - (k + 1) < m.length - k; omega)
    · refine coZ <| qR 4 [] ki fun wj kj => kO (rcget_any A' cap' b m[k].1 (by omega) _ ((hin'.below (bOn hB kj)).more (bOn hB kj).size)) fun wl hl2 => qR 1 [] (kj.below hl2) fun wn kn => wM (xBuildS (bsC m[k].1 (getC b m[k].1) wn)) <| qAc (.tmp 61) (.tmp 67) wc.heap.size _ v (diffP a b (m.take k)).length (diffP a b (m.take k)) (some ⟨wn.heap.size, 0, none⟩) 1 [(m[k].1, getC b m[k].1)] (bAlloc (bOn hB2 kn) _).size ((own_below hown kn.touch.below).alloc _) (ccell_new wn _ _ _) (fun e => by cases e) (by show (diffP a b (m.take k)).length + 1 ≤ _; omega) fun v' wo own' g' => ?_
      have hBo := below_own (bAlloc (bOn hB kn) _) g' ((own_below hown kn.touch.below).alloc _) hBc.size (bAlloc (bOn hB kn) _).size
      have hBo2 := below_own (bAlloc (bOn hB2 kn) _) g' ((own_below hown kn.touch.below).alloc _) (Nat.le_refl _) (bAlloc (bOn hB2 kn) _).size
      refine qF [] (Many.begin wo) fun wp kp => eoB <| eoT <| coZ <| qR 1 [] kp fun wq kq => wM (xInc k (by omega)) <| qF [] kq fun wr kr => eoRound (fun y => ⟨k + 1, v', y⟩) ⟨bOn hBo kr, bOn hBo2 kr, ?_, hlt⟩ (by show m.length - (k + 1) < m.length - k; omega)
      show wr.ownsRow _ _ _ v' (diffP a b (m.take (k + 1))).length (cvs (diffP a b (m.take (k + 1))))
      rw [hsn, if_pos h, List.length_append]
      exact own_below own' kr.touch.below
    · show wl.ownsRow _ _ _ v (diffP a b (m.take (k + 1))).length (cvs (diffP a b (m.take (k + 1))))
      rw [hsn, if_neg (by rw [h]; simp), List.append_nil]
      exact own_below hown kl.touch.below
  have hkl : k = m.length := by have : ¬ ((k : Int) < (m.length : Int)) := by simpa using hge
                                omega
  subst hkl
  rw [List.take_length, hdm] at hown
  refine qQ [] ka fun wz kz => ?_
  obtain ⟨D, c, rfl, d1, d2, d3⟩ := own_cslice (own_below hown kz.touch.below)
  exact coRet <| eoIr (.slice D (diffL a b).length c) ⟨D, c, rfl, d2, d1, d3, bOn hB kz⟩
end Go.Proofs.Ytahnejcfengljaa
