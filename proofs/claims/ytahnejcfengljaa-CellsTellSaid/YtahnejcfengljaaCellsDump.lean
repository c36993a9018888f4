/- Layer 14 (cells): Dump, the document's own. -/
import Derived.Test.YtahnejcfengljaaCellsList
import Derived.Laws.MakeOwn
namespace Go.Proofs.Ytahnejcfengljaa
open Go.RowKit
set_option linter.unusedVariables false
set_option linter.unusedSimpArgs false
set_option maxRecDepth 20000

theorem sub16 (a b : Int) (w : World) : (binOp .sub 23 (.int .u16 a) (.int .u16 b)).run Try.prog w = .ok (.int .u16 ((a - b) % 65536)) w := by simp [go_sem, IntKind.wrap_u16]
theorem xMake {P : Program} {ρ : Operand → Value} {o : Oper} {x y : Operand} {V W R : Value} {t : TypeId} {w w' : World} (h : (Instr.makeSlice t V W).run P w = .ok R w') (ho : o.op = .makeSlice t x y := by exact rfl) (hx : ρ x = V := by kernel_rfl) (hy : ρ y = W := by kernel_rfl) : (execOp ρ o).run P w = .ok (.value R) w' := by
  unfold execOp
  simp only [ho, hx, hy, Sem.run_bind, Sem.run_pure, h, Result.andThen_ok]
theorem xStore {P : Program} {ρ : Operand → Value} {o : Oper} {x y : Operand} {V W : Value} {t : TypeId} {w w' : World} (h : (Instr.storeAt t V W).run P w = .ok () w') (ho : o.op = .store t x y := by exact rfl) (hx : ρ x = V := by kernel_rfl) (hy : ρ y = W := by kernel_rfl) : (execOp ρ o).run P w = .ok .skip w' := by
  unfold execOp
  simp only [ho, hx, hy, Sem.run_bind, Sem.run_pure, h, Result.andThen_ok]
theorem cmade_bytes (N : Nat) : madeCells (Value.int .u8 0).cells (N * 1) = (bvs (List.replicate N 0)).toArray := by
  apply Array.ext_getElem?
  intro i
  by_cases h : i < N
  · simp [madeCells, bvs, h, Value.cells, Nat.mod_one]
  · simp [madeCells, bvs, h, Value.cells]
theorem bvs_set (xs : List Int) (i : Nat) (v : Int) : (bvs xs).toArray.setIfInBounds i (.int .u8 v) = (bvs (xs.set i v)).toArray := by
  simp [bvs, List.map_set]
def capN (n : Int) : Int := if (if (0 : Int) > n then 0 else n) > 4096 then 4096 else (if (0 : Int) > n then 0 else n)
def dmpB (A : Option Addr) (n cap : Nat) (at_ nn : Int) (g N : Nat) (x : LoopK) : List Value := [.slice A n cap, .int .u16 at_, .int .i64 nn, x.y 3, x.y 4, x.y 5, x.y 6, .slice (some ⟨g, 0, none⟩) N N, x.y 8, x.y 9, x.y 10, x.y 11, x.y 12, x.y 13, x.y 14, .slice A n cap, .int .i64 (n : Int), .int .i64 (x.k : Int), x.y 18, x.y 19, x.y 20, x.y 21, x.y 22, x.y 23, x.y 24, x.y 25, x.y 26, x.y 27, x.y 28, x.y 29, x.y 30, x.y 31, x.y 32, x.y 33, x.y 34, x.y 35, x.y 36]
def dmpI (w : World) (l : List (Int × Int)) (at_ : Int) (g N : Nat) (x : LoopK) (W : World) : Prop := Below w.heap.size w W ∧ Row W g 5 (bvs (dumpN (l.take x.k) at_ N)).toArray ∧ x.k ≤ l.length
theorem cdump_any (A : Option Addr) (cap : Nat) (l : List (Int × Int)) (at_ n : Int) (hl : l.length ≤ 100000000) (h16 : Cells16 l) (ha : 0 ≤ at_ ∧ at_ ≤ 65535) (w : World) (hin : CellsIn w w.heap.size A l) :
    Calls Try.prog 19 #[.slice A l.length cap, .int .u16 at_, .int .i64 n] w fun e w' => ∃ g, e = .returned (.slice (some ⟨g, 0, none⟩) (dumpL l at_ n).length (dumpL l at_ n).length) ∧ BytesIn w' w'.heap.size (some ⟨g, 0, none⟩) (dumpL l at_ n) ∧ Below w.heap.size w w' := by
  go_enter Try.func19, Try.ntmps19
  refine coStart <| qQ [] (Many.begin w) fun w1 k1 => coR <| qR 3 [] k1 fun w2 k2 => ?_
  obtain ⟨N, hN⟩ : ∃ N, N = min n.toNat 4096 := ⟨_, rfl⟩
  have hcN : capN n = (N : Int) := by
    unfold capN
    by_cases h0 : (0 : Int) > n
    · rw [if_pos h0, if_neg (by omega)]; omega
    · rw [if_neg h0]
      by_cases h1 : n > 4096
      · rw [if_pos h1]; omega
      · rw [if_neg h1]; omega
  obtain ⟨i0, hi0, hz0, hz1, hz2⟩ := info_parts u8_info
  have hmk : (Instr.makeSlice 32 (.int .i64 (capN n)) (.int .i64 (capN n))).run Try.prog w2 = .ok (.slice (some ⟨w2.heap.size, 0, none⟩) N N) (w2.alloc (.cells (bvs (List.replicate N 0)).toArray 5)) := by
    have := run_make (P := Try.prog) w2 32 5 i0 (.int .u8 0) Try.underlying32 hi0 hz0 .i64 .i64 (N : Int) (N : Int) (by omega) (by omega) (by rw [hz2]; omega) (by omega)
    rw [hcN, this, hz1]
    simp only [Int.toNat_natCast, cmade_bytes]
  obtain ⟨g, hg⟩ : ∃ g, g = w2.heap.size := ⟨_, rfl⟩
  have hwg : w.heap.size ≤ g := by rw [hg]; exact k2.touch.size
  have hBa : Below w.heap.size w (w2.alloc (.cells (bvs (List.replicate N 0)).toArray 5)) := bAlloc k2.touch.below _
  refine wM (xMake hmk) <| qE [] (Many.begin _) fun w3 k3 => coS <| qQ [] (Many.begin w3) fun w4 k4 => coB <| coLoop (dmpB A l.length cap at_ n g N) (dmpI w l at_ g N) (fun x => l.length - x.k) (fun y => ⟨0, y⟩) ⟨bOn (bOn hBa k3) k4, ?_, Nat.zero_le _⟩ ?_ (by rw [hg]; kernel_rfl)
  · show Row w4 g _ (bvs (dumpN (l.take 0) at_ N)).toArray
    rw [List.take_zero, dumpN_nil, hg]
    have h0 := Row.new w2 5 (bvs (List.replicate N 0)).toArray
    have h1 := h0.below k3.touch.below h0.lt
    exact h1.below k4.touch.below h1.lt
  clear hmk hBa k3 k4 hg
  rintro ⟨k, y⟩ W ⟨hB, hrow, hk⟩
  have hk : k ≤ l.length := hk
  have hrow : Row W g 5 (bvs (dumpN (l.take k) at_ N)).toArray := hrow
  refine qQ [] (Many.begin W) fun wa ka => coS <| coI (decide ((k : Int) < (l.length : Int))) (fun hlt => coSkip <| eoT <| coS <| coB <| ?_) fun hge => coX <| eoTx <| eoTx <| eoBx <| eoT ?_
  · have hlt : k < l.length := by have : (k : Int) < (l.length : Int) := by simpa using hlt
                                  omega
    obtain ⟨p, rfl, -⟩ := hin.at_ hlt
    have hc := h16 _ (List.getElem_mem hlt)
    have hset := dumpN_set (l.take k) l[k] at_ N ha ⟨hc.1, hc.2.1⟩ (by omega)
    rw [← take_snoc l k hlt] at hset
    refine coR <| wM (xIndex (cixC p l.length cap k hlt _)) <| wM (xLoad ((hin.below (bOn hB ka)).ldW hlt)) <| qE [0] ka fun wb kb => coR <| qR 3 [0] kb fun wc kc => wM (xBin (guard16 _ _ _ l[k].1 at_ _) (sub16 l[k].1 at_ _)) <| wM (xConv (cv16 ((l[k].1 - at_) % 65536) (by omega) _)) <| qE [] kc fun wd kd => qQ [] kd fun we ke => coI (decide (((l[k].1 - at_) % 65536) < (N : Int))) (fun h => ?_) fun h => ?_
    · have h : (l[k].1 - at_) % 65536 < (N : Int) := by simpa using h
      obtain ⟨j, hj⟩ : ∃ j : Nat, (l[k].1 - at_) % 65536 = (j : Int) := ⟨((l[k].1 - at_) % 65536).toNat, by omega⟩
      have hjN : j < N := by omega
      have hre := hrow.below ke.touch.below hrow.lt
      have hix : ∀ w, (Instr.indexAt 32 (.slice (some ⟨g, 0, none⟩) N N) (.int .i64 ((l[k].1 - at_) % 65536))).run Try.prog w = .ok (.pointer (some ((⟨g, 0, none⟩ : Addr).add j))) w := fun w => by rw [hj]; exact ixB _ N N j hjN w
      have eadd : (⟨g, 0, none⟩ : Addr).add j = ⟨g, j, none⟩ := by
        unfold Addr.add
        split
        · rename_i h0; rw [h0]
        · simp
      refine coZ <| qR 4 [0] ke fun wf kf => wM (xIndex (hix _)) <| ?_
      have hrf := hrow.below kf.touch.below hrow.lt
      have hsz : j < (bvs (dumpN (l.take k) at_ N)).toArray.size := by
        simp [bvs, dumpN_length]; exact hjN
      have hcell : wf.cell? ((⟨g, 0, none⟩ : Addr).add j) = some (bvs (dumpN (l.take k) at_ N)).toArray[j] := by
        rw [eadd, hrf.cell j]
        exact Array.getElem?_eq_getElem hsz
      have hst : (Instr.storeAt 5 (.pointer (some ((⟨g, 0, none⟩ : Addr).add j))) (.int .u8 l[k].2)).run Try.prog wf = .ok () (wf.setCell ⟨g, j, none⟩ (.int .u8 l[k].2)) := by
        rw [← eadd]
        exact storeOne (by kernel_rfl) hcell (by rw [eadd]; exact hrf.frozen j) rfl
      have hrow' : Row (wf.setCell ⟨g, j, none⟩ (.int .u8 l[k].2)) g 5 (bvs (dumpN (l.take (k + 1)) at_ N)).toArray := by
        have := hrf.set j (.int .u8 l[k].2)
        rw [bvs_set] at this
        rw [hset, hj]
        exact this
      have hBs : Below w.heap.size w (wf.setCell ⟨g, j, none⟩ (.int .u8 l[k].2)) := (bOn hB kf).setCell hwg _
      refine wD (xStore hst) <| woE <| eoB <| eoT <| coZ <| wM (xInc k (by omega)) <| qF [] (Many.begin _) fun wh kh => eoRound (fun y => ⟨k + 1, y⟩) ⟨bOn hBs kh, hrow'.below kh.touch.below hrow'.lt, hlt⟩ (by show l.length - (k + 1) < l.length - k; omega)
    · have h : ¬ ((l[k].1 - at_) % 65536 < (N : Int)) := by simpa using h
      refine coSkip <| eoB <| eoT <| coZ <| wM (xInc k (by omega)) <| qF [] ke fun wh kh => eoRound (fun y => ⟨k + 1, y⟩) ⟨bOn hB kh, ?_, hlt⟩ (by show l.length - (k + 1) < l.length - k; omega)
      show Row wh g _ (bvs (dumpN (l.take (k + 1)) at_ N)).toArray
      rw [hset, List.set_eq_of_length_le (by rw [dumpN_length]; omega)]
      exact hrow.below kh.touch.below hrow.lt
  · have hkl : k = l.length := by have : ¬ ((k : Int) < (l.length : Int)) := by simpa using hge
                                  omega
    subst hkl
    rw [List.take_length] at hrow
    have e : dumpL l at_ n = dumpN l at_ N := by unfold dumpL; rw [hN]
    have hrz := hrow.below ka.touch.below hrow.lt
    refine qQ [] ka fun wz kz => coRet <| eoIr (.slice (some ⟨g, 0, none⟩) N N) ⟨g, ?_, ?_, bOn hB kz⟩
    · rw [e, dumpN_length]
    · rw [e]
      exact plane_row (hrow.below kz.touch.below hrow.lt)
/- the document's own -/
def rdmpB (A : Option Addr) (n cap : Nat) (at_ nn : Int) (x : LoopO) : List Value := [.slice A n cap, .int .u16 at_, .int .i64 nn, x.y 3, x.y 4, x.y 5, x.y 6, x.v, .int .i64 (x.k : Int), x.y 9, x.y 10, x.y 11, x.y 12, x.y 13, x.y 14, x.y 15, x.y 16, x.y 17, x.y 18, x.y 19, x.y 20, x.y 21, x.y 22, x.y 23, x.y 24, x.y 25, x.y 26, x.y 27]
def rdmpI (w : World) (l : List (Int × Int)) (at_ : Int) (N : Nat) (x : LoopO) (W : World) : Prop := Below w.heap.size w W ∧ W.ownsRow w.heap.size 5 1 x.v x.k (bvs (dumpN l at_ x.k)) ∧ x.k ≤ N
theorem rcdump_any (A : Option Addr) (cap : Nat) (l : List (Int × Int)) (at_ n : Int) (hl : l.length ≤ 100000000) (h16 : Cells16 l) (ha : 0 ≤ at_ ∧ at_ ≤ 65535) (w : World) (hin : CellsIn w w.heap.size A l) :
    Calls Try.prog 20 #[.slice A l.length cap, .int .u16 at_, .int .i64 n] w fun e w' => ∃ A' c, e = .returned (.slice A' (dumpL l at_ n).length c) ∧ BytesIn w' w'.heap.size A' (dumpL l at_ n) ∧ (dumpL l at_ n).length ≤ c ∧ (A' = none → c = 0) ∧ Below w.heap.size w w' := by
  obtain ⟨N, hN⟩ : ∃ N, N = min n.toNat 4096 := ⟨_, rfl⟩
  have eN : dumpL l at_ n = dumpN l at_ N := by unfold dumpL; rw [hN]
  rw [eN]
  go_enter Try.func20, Try.ntmps20
  refine coStart <| qQ [] (Many.begin w) fun w1 k1 => qQ [] k1 fun w2 k2 => coS <| qQ [] k2 fun w3 k3 => coB <| coLoop (rdmpB A l.length cap at_ n) (rdmpI w l at_ N) (fun x => N - x.k) (fun y => ⟨0, .slice none 0 0, y⟩) ⟨k3.touch.below, World.ownsRow_nil .., Nat.zero_le _⟩ ?_
  rintro ⟨k, v, y⟩ W ⟨hB, hown, hk⟩
  have hk : k ≤ N := hk
  have hown : W.ownsRow w.heap.size 5 1 v k (bvs (dumpN l at_ k)) := hown
  have out : ∀ wz, Below w.heap.size w wz → wz.ownsRow w.heap.size 5 1 v k (bvs (dumpN l at_ k)) → k = N → ∃ A' c, v = .slice A' (dumpN l at_ N).length c ∧ BytesIn wz wz.heap.size A' (dumpN l at_ N) ∧ (dumpN l at_ N).length ≤ c ∧ (A' = none → c = 0) ∧ Below w.heap.size w wz := by
    intro wz hz ho e
    subst e
    obtain ⟨A', c, rfl, hc, hb, hn⟩ := own_slice ho
    exact ⟨A', c, by rw [dumpN_length], hb, by rw [dumpN_length]; exact hc, hn, hz⟩
  refine coS <| coR <| qR 4 [] (Many.begin W) fun wa ka => ?_
  by_cases h1 : (k : Int) < n
  · refine tell 12 (decide_eq_true h1) <| qE [] ka fun wb kb => coI (decide ((k : Int) < 4096)) (fun h2 => coSkip <| eoT <| coS <| coB <| ?_) fun h2 => coX <| eoTx <| eoTx <| eoBx <| eoT <| qQ [] kb fun wz kz => ?_
    · have h2 : (k : Int) < 4096 := by simpa using h2
      have hkN : k < N := by omega
      refine coZ <| qR 4 [] kb fun wc kc => wM (xConv (cvI16 (k : Int) (by omega) _)) <| wM (xBin (guard16 _ _ _ at_ (k : Int) _) (add16 at_ (k : Int) _)) <| kO (rcget_any A cap l ((at_ + (k : Int)) % 65536) (by omega) _ ((hin.below (bOn hB kc)).more (bOn hB kc).size)) fun wd hbd => qR 1 [] (Many.begin wd) fun we ke => ?_
      have hBd : Below w.heap.size w wd := (bOn hB kc).trans (hbd.mono (bOn hB kc).size)
      have hownd := own_below (own_below hown kc.touch.below) hbd
      refine qA (.tmp 18) (.tmp 25) w w.heap.size we.heap.size v k (dumpN l at_ k) (some ⟨wd.heap.size, 0, none⟩) 1 [getC l ((at_ + (k : Int)) % 65536)] (bOn hBd ke) (Nat.le_refl _) (bOn hBd ke).size (own_below hownd ke.touch.below) (ke.byte (t := 5) 0 (by kernel_rfl)) (fun e => by cases e) (by show k + 1 ≤ _; omega) fun v' wf own' hBf hsf => qF [] (Many.begin wf) fun wg kg => eoB <| eoT <| coZ <| qR 1 [] kg fun wh kh => wM (xInc k (by omega)) <| qF [] kh fun wi ki => eoRound (fun y => ⟨k + 1, v', y⟩) ⟨bOn hBf ki, ?_, hkN⟩ (by show N - (k + 1) < N - k; omega)
      show wi.ownsRow _ _ _ v' (k + 1) (bvs (dumpN l at_ (k + 1)))
      rw [dumpN_snoc]
      exact own_below own' ki.touch.below
    · have h2 : ¬ ((k : Int) < 4096) := by simpa using h2
      obtain ⟨A', c, rfl, g1, g2, g3, g4⟩ := out wz (bOn hB kz) (own_below hown kz.touch.below) (by omega)
      exact coRet <| eoIr (.slice A' (dumpN l at_ N).length c) ⟨A', c, rfl, g1, g2, g3, g4⟩
  · refine tell 12 (decide_eq_false h1) <| qE [] ka fun wb kb => coF <| coX <| eoTx <| eoTx <| eoBx <| eoT <| qQ [] kb fun wz kz => ?_
    obtain ⟨A', c, rfl, g1, g2, g3, g4⟩ := out wz (bOn hB kz) (own_below hown kz.touch.below) (by omega)
    exact coRet <| eoIr (.slice A' (dumpN l at_ N).length c) ⟨A', c, rfl, g1, g2, g3, g4⟩
end Go.Proofs.Ytahnejcfengljaa
