/- Layer 14 (cells): Check, the document's own; Same. -/
import Derived.Test.YtahnejcfengljaaCellsLeaf
import Derived.Test.YtahnejcfengljaaDrawn
import Derived.Laws.StructEq
namespace Go.Proofs.Ytahnejcfengljaa
open Go.RowKit
set_option linter.unusedVariables false
set_option maxRecDepth 20000

theorem cv16 (a : Int) (h : 0 ≤ a ∧ a ≤ 65535) (w : World) : (convert 23 3 (.int .u16 a)).run Try.prog w = .ok (.int .i64 a) w := by
  have e : IntKind.i64.wrap a = a := by rw [IntKind.wrap_i64]; omega
  simp [go_sem, e]
theorem addI (a b : Int) (h : -4611686018427387904 ≤ a + b ∧ a + b ≤ 4611686018427387904) (w : World) : (binOp .add 3 (.int .i64 a) (.int .i64 b)).run Try.prog w = .ok (.int .i64 (a + b)) w := by
  have e : IntKind.i64.wrap (a + b) = a + b := by rw [IntKind.wrap_i64]; omega
  simp [go_sem, e]
theorem guardI (op : BinOp) (x y : Operand) (a b : Int) (w : World) : (eqGuard op 3 x y (.int .i64 a) (.int .i64 b)).run Try.prog w = .ok () w := by simp [go_sem]
theorem cell_neq (a b c d : Int) (w : World) : (binOp .neq 38 (.agg #[.int .u16 a, .int .u8 b]) (.agg #[.int .u16 c, .int .u8 d])).run Try.prog w = .ok (.bool (!(a == c && b == d))) w := by
  by_cases h1 : a = c <;> by_cases h2 : b = d <;> simp [go_sem, h1, h2]
theorem cell_guard (op : BinOp) (x y : Operand) (a b c d : Int) (w : World) : (eqGuard op 38 x y (.agg #[.int .u16 a, .int .u8 b]) (.agg #[.int .u16 c, .int .u8 d])).run Try.prog w = .ok () w := by
  simp [go_sem]
theorem xConv {P : Program} {ρ : Operand → Value} {o : Oper} {x : Operand} {V R : Value} {s t : TypeId} {w : World} (hc : (convert s t V).run P w = .ok R w) (ho : o.op = .convert s t x := by exact rfl) (hx : ρ x = V := by kernel_rfl) : (execOp ρ o).run P w = .ok (.value R) w := by
  unfold execOp
  simp only [ho, hx, Sem.run_bind, Sem.run_pure, hc, Result.andThen_ok]
def cerrI (b : Bool) : Int := if b = true then 0 else 1
def cchkB (A : Option Addr) (n cap : Nat) (x : LoopV) : List Value := [.slice A n cap, x.y 1, x.y 2, .int .i64 x.v, x.y 4, x.y 5, .slice A n cap, .int .i64 (n : Int), .int .i64 (x.k : Int), x.y 9, x.y 10, x.y 11, x.y 12, x.y 13, x.y 14, x.y 15, x.y 16, x.y 17, x.y 18, x.y 19, x.y 20, x.y 21, x.y 22, x.y 23, x.y 24, x.y 25, x.y 26]
def cchkI (w : World) (l : List (Int × Int)) (x : LoopV) (W : World) : Prop := Below w.heap.size w W ∧ okC 0 l = okC x.v (l.drop x.k) ∧ x.k ≤ l.length
theorem ccheck_any (A : Option Addr) (cap : Nat) (l : List (Int × Int)) (hl : l.length ≤ 1000000000) (h16 : Cells16 l) (w : World) (hin : CellsIn w w.heap.size A l) :
    Calls Try.prog 8 #[.slice A l.length cap] w fun e w' => e = .returned (.int .i64 (cerrI (okC 0 l))) ∧ Below w.heap.size w w' := by
  go_enter Try.func8, Try.ntmps8
  refine coStart <| qQ [] (Many.begin w) fun w1 k1 => qQ [] k1 fun w2 k2 => coS <| qQ [] k2 fun w3 k3 => coB <| coLoop (cchkB A l.length cap) (cchkI w l) (fun x => l.length - x.k) (fun y => ⟨0, 0, y⟩) ⟨k3.touch.below, rfl, Nat.zero_le _⟩ ?_
  rintro ⟨k, v, y⟩ W ⟨hB, hv, hk⟩
  have hk : k ≤ l.length := hk
  have hv : okC 0 l = okC v (l.drop k) := hv
  refine qQ [] (Many.begin W) fun wa ka => coS <| coI (decide ((k : Int) < (l.length : Int))) (fun hlt => coSkip <| eoT <| coS <| coB <| ?_) fun hge => coX <| eoTx <| eoTx <| eoBx <| eoT ?_
  · have hlt : k < l.length := by have : (k : Int) < (l.length : Int) := by simpa using hlt
                                  omega
    obtain ⟨p, rfl, -⟩ := hin.at_ hlt
    have hc := h16 _ (List.getElem_mem hlt)
    rw [List.drop_eq_getElem_cons hlt] at hv
    simp only [okC] at hv
    refine coR <| wM (xIndex (cixC p l.length cap k hlt _)) <| wM (xLoad ((hin.below (bOn hB ka)).ldW hlt)) <| qE [0] ka fun wb kb => coS <| coR <| qR 2 [0] kb fun wc kc => wM (xConv (cv16 l[k].1 ⟨hc.1, hc.2.1⟩ _)) <| qR 3 [] kc fun wd kd => ?_
    by_cases h1 : l[k].1 < v
    · rw [decide_eq_true h1] at hv
      simp only [Bool.true_or, Bool.not_true, Bool.false_and] at hv
      exact tell 17 (decide_eq_true h1) <| qE [] kd fun we ke => coT <| qQ [] ke fun wf kf => coRet <| eoTr <| eoBr <| eoTr <| eoTr <| eoBr <| eoTr <| eoIr (.int .i64 1) ⟨by rw [hv]; rfl, bOn hB kf⟩
    · rw [decide_eq_false h1] at hv
      simp only [Bool.false_or] at hv
      refine tell 17 (decide_eq_false h1) <| qE [0] kd fun we ke => coI (l[k].2 == 0) (fun h2 => qQ [] ke fun wf kf => coRet <| eoTr <| eoBr <| eoTr <| eoTr <| eoBr <| eoTr <| eoIr (.int .i64 1) ⟨?_, bOn hB kf⟩) fun h2 => coSkip <| eoT <| coZ <| qR 2 [0] ke fun wf kf => wM (xConv (cv16 l[k].1 ⟨hc.1, hc.2.1⟩ _)) <| wM (xBin (guardI _ _ _ l[k].1 1 _) (addI l[k].1 1 (by omega) _)) <| qF [] kf fun wg kg => eoB <| eoT <| coZ <| wM (xInc k (by omega)) <| qF [] kg fun wh kh => eoRound (fun y => ⟨k + 1, l[k].1 + 1, y⟩) ⟨bOn hB kh, ?_, hlt⟩ (by show l.length - (k + 1) < l.length - k; omega)
      · rw [hv, h2]; rfl
      · show okC 0 l = okC (l[k].1 + 1) (l.drop (k + 1))
        rw [hv, h2]; rfl
  · have hkl : k = l.length := by have : ¬ ((k : Int) < (l.length : Int)) := by simpa using hge
                                  omega
    subst hkl
    rw [List.drop_length] at hv
    exact qQ [] ka fun wz kz => coRet <| eoIr (.int .i64 0) ⟨by rw [hv]; rfl, bOn hB kz⟩
/- the document's own -/
theorem subI (a b : Int) (h : -4611686018427387904 ≤ a - b ∧ a - b ≤ 4611686018427387904) (w : World) : (binOp .sub 3 (.int .i64 a) (.int .i64 b)).run Try.prog w = .ok (.int .i64 (a - b)) w := by
  have e : IntKind.i64.wrap (a - b) = a - b := by rw [IntKind.wrap_i64]; omega
  simp [go_sem, e]
theorem pred_i64 (j : Nat) (h : j < 4611686018427387904) (w : World) : (binOp .sub 3 (.int .i64 ((j + 1 : Nat) : Int)) (.int .i64 1)).run Try.prog w = .ok (.int .i64 (j : Int)) w := by
  rw [subI _ _ (by omega) w]
  have : ((j + 1 : Nat) : Int) - 1 = j := by omega
  rw [this]
def rcchkB (A : Option Addr) (n cap : Nat) (x : LoopK) : List Value := [.slice A n cap, x.y 1, x.y 2, .int .i64 (x.k : Int), x.y 4, x.y 5, x.y 6, x.y 7, x.y 8, x.y 9, x.y 10, x.y 11, x.y 12, x.y 13, x.y 14, x.y 15, x.y 16, x.y 17, x.y 18, x.y 19, x.y 20, x.y 21, x.y 22, x.y 23, x.y 24, x.y 25, x.y 26, x.y 27, x.y 28, x.y 29, x.y 30, x.y 31, x.y 32, x.y 33]
def rcchkI (w : World) (l : List (Int × Int)) (x : LoopK) (W : World) : Prop := Below w.heap.size w W ∧ okC 0 l = okC (lstC l x.k) (l.drop x.k) ∧ x.k ≤ l.length
theorem rccheck_any (A : Option Addr) (cap : Nat) (l : List (Int × Int)) (hl : l.length ≤ 1000000000) (h16 : Cells16 l) (w : World) (hin : CellsIn w w.heap.size A l) :
    Calls Try.prog 9 #[.slice A l.length cap] w fun e w' => e = .returned (.int .i64 (cerrI (okC 0 l))) ∧ Below w.heap.size w w' := by
  go_enter Try.func9, Try.ntmps9
  refine coStart <| qQ [] (Many.begin w) fun w1 k1 => coS <| qQ [] k1 fun w2 k2 => coB <| coLoop (rcchkB A l.length cap) (rcchkI w l) (fun x => l.length - x.k) (fun y => ⟨0, y⟩) ⟨k2.touch.below, rfl, Nat.zero_le _⟩ ?_
  rintro ⟨k, y⟩ W ⟨hB, hv, hk⟩
  have hk : k ≤ l.length := hk
  have hv : okC 0 l = okC (lstC l k) (l.drop k) := hv
  refine coS <| qQ [] (Many.begin W) fun wa ka => coI (decide ((k : Int) < (l.length : Int))) (fun hlt => coSkip <| eoT <| coS <| coB <| ?_) fun hge => coX <| eoTx <| eoTx <| eoBx <| eoT ?_
  · have hlt : k < l.length := by have : (k : Int) < (l.length : Int) := by simpa using hlt
                                  omega
    obtain ⟨p, rfl, -⟩ := hin.at_ hlt
    have hc := h16 _ (List.getElem_mem hlt)
    rw [List.drop_eq_getElem_cons hlt] at hv
    simp only [okC] at hv
    have fin : ∀ (y' : Nat → Value) wc, Below w.heap.size w wc → (!(decide (l[k].1 < lstC l k) || l[k].2 == 0)) = true → rcchkI w l ⟨k + 1, y'⟩ wc := fun y' wc hc' h => ⟨hc', by
      show okC 0 l = okC (lstC l (k + 1)) (l.drop (k + 1))
      rw [hv, h, lstC_succ l k hlt, Bool.true_and], hlt⟩
    refine coD 23 (bOn hB ka) fun wb hb hB2 => qM [0, 1] hB2 <| qT 2 hB2 (fun w' _ => xIndex (cixC p l.length cap k hlt _)) <| qT 3 hB2 (fun w' _ => xField (fldC1 (p.add (k * 2)) _)) <| qT 4 hB2 (fun w' hS => xLoad ((hin.below hS).ld1 hlt)) <| qM [5, 6] hB2 ?_
    by_cases h2 : (l[k].2 == 0) = true
    · refine tellP 16 h2 <| qM [7, 8, 9, 10, 11, 12, 13, 14, 15, 16, 17, 18, 19, 20, 21, 22] hB2 <| poE <| qE [] (Many.begin wb) fun wc kc => coT <| qQ [] kc fun wd kd => coRet <| eoBr <| eoTr <| eoTr <| eoBr <| eoTr <| eoIr (.int .i64 1) ⟨?_, bOn hB2 kd⟩
      rw [hv, h2, Bool.or_true]; rfl
    · have h2 : (l[k].2 == 0) = false := by simpa using h2
      refine tellP 16 h2 <| qM [7, 8, 9] hB2 ?_
      rcases Nat.eq_zero_or_pos k with hk0 | hk0
      · have e0 : decide ((k : Int) > 0) = false := by simp; omega
        have e1 : l[k].1 < lstC l k ↔ False := by
          have : lstC l k = 0 := by unfold lstC; rw [if_pos hk0]
          rw [this]
          constructor
          · intro h; have := hc.1; omega
          · exact False.elim
        refine tellP 19 e0 <| qM [10, 11, 12, 13, 14, 15, 16, 17, 18, 19, 20, 21, 22] hB2 <| poE <| qE [] (Many.begin wb) fun wc kc => coF <| coSkip <| eoB <| eoT <| coZ <| qR 1 [] kc fun we ke => wM (xInc k (by omega)) <| qF [] ke fun wf kf => eoRound (fun y => ⟨k + 1, y⟩) (fin _ _ (bOn hB2 kf) ?_) (by show l.length - (k + 1) < l.length - k; omega)
        simp [e1, h2]
      · obtain ⟨j, rfl⟩ : ∃ j, k = j + 1 := ⟨k - 1, by omega⟩
        have hj : j < l.length := by omega
        have e0 : decide (((j + 1 : Nat) : Int) > 0) = true := decide_eq_true (by omega)
        have e1 : lstC l (j + 1) = l[j].1 + 1 := lstC_succ l j hj
        refine tellP 19 e0 <| qM [10, 11] hB2 <| qT 12 hB2 (fun w' _ => xIndex (cixC p l.length cap (j + 1) hlt _)) <| qT 13 hB2 (fun w' _ => xField (fldC0 (p.add ((j + 1) * 2)) _)) <| qT 14 hB2 (fun w' hS => xLoad ((hin.below hS).ld0 hlt)) <| qM [15, 16] hB2 <| qT 17 hB2 (fun w' _ => xBin (guardI _ _ _ ((j + 1 : Nat) : Int) 1 _) (pred_i64 j (by omega) _)) <| qT 18 hB2 (fun w' _ => xIndex (cixC p l.length cap j hj _)) <| qT 19 hB2 (fun w' _ => xField (fldC0 (p.add (j * 2)) _)) <| qT 20 hB2 (fun w' hS => xLoad ((hin.below hS).ld0 hj)) <| qM [21, 22] hB2 <| poE <| qE [] (Many.begin wb) fun wc kc => coI (decide (l[j + 1].1 ≤ l[j].1)) (fun h => qQ [] kc fun wd kd => coRet <| eoBr <| eoTr <| eoTr <| eoBr <| eoTr <| eoIr (.int .i64 1) ⟨?_, bOn hB2 kd⟩) fun h => coSkip <| eoB <| eoT <| coZ <| qR 1 [] kc fun we ke => wM (xInc (j + 1) (by omega)) <| qF [] ke fun wf kf => eoRound (fun y => ⟨j + 1 + 1, y⟩) (fin _ _ (bOn hB2 kf) ?_) (by show l.length - (j + 1 + 1) < l.length - (j + 1); omega)
        · have h : l[j + 1].1 ≤ l[j].1 := by simpa using h
          have : decide (l[j + 1].1 < lstC l (j + 1)) = true := by rw [e1]; simp; omega
          rw [hv, this]; rfl
        · have h : ¬ (l[j + 1].1 ≤ l[j].1) := by simpa using h
          have : decide (l[j + 1].1 < lstC l (j + 1)) = false := by rw [e1]; simp; omega
          rw [this, h2]; rfl
  · have hkl : k = l.length := by have : ¬ ((k : Int) < (l.length : Int)) := by simpa using hge
                                  omega
    subst hkl
    rw [List.drop_length] at hv
    exact qQ [] ka fun wz kz => coRet <| eoIr (.int .i64 0) ⟨by rw [hv]; rfl, bOn hB kz⟩
/- are two rows of cells the same? -/
def csameB (A : Option Addr) (n cap : Nat) (A' : Option Addr) (n' cap' : Nat) (x : LoopK) : List Value := [.slice A n cap, .slice A' n' cap', x.y 2, x.y 3, x.y 4, .int .i64 (x.k : Int), x.y 6, x.y 7, x.y 8, x.y 9, x.y 10, x.y 11, x.y 12, x.y 13, x.y 14, x.y 15, x.y 16, x.y 17, x.y 18, x.y 19, x.y 20, x.y 21, x.y 22, x.y 23, x.y 24, x.y 25]
def csameI (w : World) (l m : List (Int × Int)) (x : LoopK) (W : World) : Prop := Below w.heap.size w W ∧ l.take x.k = m.take x.k ∧ x.k ≤ l.length
theorem csame_any (A : Option Addr) (cap : Nat) (l : List (Int × Int)) (A' : Option Addr) (cap' : Nat) (m : List (Int × Int)) (hl : l.length ≤ 1000000000) (w : World) (hin : CellsIn w w.heap.size A l) (hin' : CellsIn w w.heap.size A' m) :
    Calls Try.prog 10 #[.slice A l.length cap, .slice A' m.length cap'] w fun e w' => e = .returned (.bool (decide (l = m))) ∧ Below w.heap.size w w' := by
  go_enter Try.func10, Try.ntmps10
  refine coStart <| qQ [] (Many.begin w) fun w1 k1 => coS <| qQ [] k1 fun w2 k2 => coI ((l.length : Int) != (m.length : Int)) (fun h => ?_) fun h => ?_
  · have hne : l ≠ m := fun e => by rw [e] at h; simp at h
    exact qQ [] k2 fun w3 k3 => coRet <| eoTr <| eoIr (.bool false) ⟨by rw [decide_eq_false hne], k3.touch.below⟩
  have hlm : l.length = m.length := by have : ((l.length : Int) = (m.length : Int)) := by simpa using h
                                       omega
  refine coSkip <| eoT <| coS <| qQ [] k2 fun w3 k3 => coB <| coLoop (csameB A l.length cap A' m.length cap') (csameI w l m) (fun x => l.length - x.k) (fun y => ⟨0, y⟩) ⟨k3.touch.below, rfl, Nat.zero_le _⟩ ?_
  rintro ⟨k, y⟩ W ⟨hB, hv, hk⟩
  have hk : k ≤ l.length := hk
  have hv : l.take k = m.take k := hv
  refine coS <| qQ [] (Many.begin W) fun wa ka => coI (decide ((k : Int) < (l.length : Int))) (fun hlt => coSkip <| eoT <| coS <| coB <| ?_) fun hge => coX <| eoTx <| eoTx <| eoBx <| eoT ?_
  · have hlt : k < l.length := by have : (k : Int) < (l.length : Int) := by simpa using hlt
                                  omega
    have hlt' : k < m.length := by omega
    obtain ⟨p, rfl, -⟩ := hin.at_ hlt
    obtain ⟨q, rfl, -⟩ := hin'.at_ hlt'
    refine coD 8 (bOn hB ka) fun wb hb hB2 => qM [0, 1] hB2 <| qT 2 hB2 (fun w' _ => xIndex (cixC p l.length cap k hlt _)) <| qT 3 hB2 (fun w' hS => xLoad ((hin.below hS).ldW hlt)) <| qM [4, 5] hB2 <| qT 6 hB2 (fun w' _ => xIndex (cixC q m.length cap' k hlt' _)) <| qT 7 hB2 (fun w' hS => xLoad ((hin'.below hS).ldW hlt')) <| poE <| wM (xBin (cell_guard _ _ _ l[k].1 l[k].2 m[k].1 m[k].2 _) (cell_neq l[k].1 l[k].2 m[k].1 m[k].2 _)) <| wT <| coI (!(l[k].1 == m[k].1 && l[k].2 == m[k].2)) (fun h => ?_) fun h => ?_
    · have hne : l ≠ m := fun e => by subst e; simp at h
      exact qQ [] (Many.begin wb) fun w3 k3 => coRet <| eoBr <| eoTr <| eoTr <| eoBr <| eoTr <| eoIr (.bool false) ⟨by rw [decide_eq_false hne], bOn hB2 k3⟩
    · have he : l[k] = m[k] := by
        simp at h
        exact Prod.ext h.1 h.2
      refine coSkip <| eoB <| eoT <| coZ <| qR 1 [] (Many.begin wb) fun we ke => wM (xInc k (by omega)) <| qF [] ke fun wf kf => eoRound (fun y => ⟨k + 1, y⟩) ⟨bOn hB2 kf, ?_, hlt⟩ (by show l.length - (k + 1) < l.length - k; omega)
      show l.take (k + 1) = m.take (k + 1)
      rw [take_snoc l k hlt, take_snoc m k hlt', hv, he]
  · have hkl : k = l.length := by have : ¬ ((k : Int) < (l.length : Int)) := by simpa using hge
                                  omega
    subst hkl
    have e : l = m := by
      have := hv
      rw [List.take_length, hlm, List.take_length] at this
      exact this
    exact qQ [] ka fun wz kz => coRet <| eoIr (.bool true) ⟨by rw [decide_eq_true e], bOn hB kz⟩
end Go.Proofs.Ytahnejcfengljaa
