/- Contracts and facts that the claim's proof wants (several texts in one). -/
import Derived.Shelf.Strconv.Itoa3
import Derived.Test.YtoifkefonejeiaaDoorProg
import Derived.Test.YtoifkefonejeiaaDoorChecked
import Derived.Lib.ItoaLen
import Derived.WalkKit
import Derived.Lib.LaidTab
import Derived.Lib.ItoaNum
import Derived.FnData
import Derived.Below
import Derived.Handy
import Derived.Lib.Hide
import Derived.LoopN
import Derived.Test.YtoifkefonejeiaaDoorCyG3
import Derived.Test.YtoifkefonejeiaaDoorCyG4
namespace Go.Proofs.YtoifkefonejeiaaDoor
open Go.RowKit
set_option linter.unusedVariables false
set_option linter.unusedSimpArgs false
set_option maxRecDepth 20000
set_option maxHeartbeats 20000000
theorem rsampleY_any (k : Int) (W : World) : Calls Tryd.prog 13 #[.int .i64 k] W fun e W' => e = .returned (.int .i64 (sampN k : Nat)) ∧ Below W.heap.size W W' := by
  go_enter Tryd.func13, Tryd.ntmps13
  by_cases h1 : k = 1
  · subst h1
    exact coStart <| qQ [] (Many.begin W) fun w1 k1 => coS <| qQ [] k1 fun w2 k2 => coB <| coS <| qQ [] k2 fun w3 k3 => coT <| coSkip <| eoT <| coT <| qQ [] k3 fun w4 k4 => coRet <| eoBr <| eoTr <| eoIr (.int .i64 2) ⟨rfl, k4.touch.below⟩
  by_cases h2 : k = 2
  · subst h2
    exact coStart <| qQ [] (Many.begin W) fun w1 k1 => coS <| qQ [] k1 fun w2 k2 => coB <| coS <| qQ [] k2 fun w3 k3 => coF <| qQ [] k3 fun w4 k4 => coT <| coSkip <| eoT <| coT <| qQ [] k4 fun w5 k5 => coRet <| eoBr <| eoTr <| eoIr (.int .i64 2) ⟨rfl, k5.touch.below⟩
  by_cases h3 : k = 3
  · subst h3
    exact coStart <| qQ [] (Many.begin W) fun w1 k1 => coS <| qQ [] k1 fun w2 k2 => coB <| coS <| qQ [] k2 fun w3 k3 => coF <| qQ [] k3 fun w4 k4 => coF <| coZ <| qF [] k4 fun w5 k5 => eoT <| coT <| qQ [] k5 fun w6 k6 => coRet <| eoBr <| eoTr <| eoIr (.int .i64 2) ⟨rfl, k6.touch.below⟩
  by_cases h4 : k = 4
  · subst h4
    exact coStart <| qQ [] (Many.begin W) fun w1 k1 => coS <| qQ [] k1 fun w2 k2 => coB <| coS <| qQ [] k2 fun w3 k3 => coF <| qQ [] k3 fun w4 k4 => coF <| coZ <| qF [] k4 fun w5 k5 => eoT <| coF <| coS <| qQ [] k5 fun w6 k6 => coT <| coSkip <| eoT <| coT <| qQ [] k6 fun w7 k7 => coRet <| eoBr <| eoTr <| eoIr (.int .i64 3) ⟨rfl, k7.touch.below⟩
  by_cases h5 : k = 5
  · subst h5
    exact coStart <| qQ [] (Many.begin W) fun w1 k1 => coS <| qQ [] k1 fun w2 k2 => coB <| coS <| qQ [] k2 fun w3 k3 => coF <| qQ [] k3 fun w4 k4 => coF <| coZ <| qF [] k4 fun w5 k5 => eoT <| coF <| coS <| qQ [] k5 fun w6 k6 => coF <| coZ <| qF [] k6 fun w7 k7 => eoT <| coT <| qQ [] k7 fun w8 k8 => coRet <| eoBr <| eoTr <| eoIr (.int .i64 3) ⟨rfl, k8.touch.below⟩
  by_cases h6 : k = 6
  · subst h6
    exact coStart <| qQ [] (Many.begin W) fun w1 k1 => coS <| qQ [] k1 fun w2 k2 => coB <| coS <| qQ [] k2 fun w3 k3 => coF <| qQ [] k3 fun w4 k4 => coF <| coZ <| qF [] k4 fun w5 k5 => eoT <| coF <| coS <| qQ [] k5 fun w6 k6 => coF <| coZ <| qF [] k6 fun w7 k7 => eoT <| coF <| qQ [] k7 fun w8 k8 => coT <| qQ [] k8 fun w9 k9 => coRet <| eoBr <| eoTr <| eoIr (.int .i64 4) ⟨rfl, k9.touch.below⟩
  have e : sampN k = 0 := by
    unfold sampN
    rw [if_neg (by omega), if_neg (by omega), if_neg (by omega)]
  rw [e]
  exact coStart <| qQ [] (Many.begin W) fun w1 k1 => coS <| qQ [] k1 fun w2 k2 => coB <| coS <| coR <| qR 1 [] k2 fun ww kk => tell 5 (show (k == 1) = false by simpa using h1) <| qE [] kk fun w3 k3 => coF <| coR <| qR 1 [] k3 fun ww kk => tell 6 (show (k == 2) = false by simpa using h2) <| qE [] kk fun w4 k4 => coF <| coZ <| qR 1 [] k4 fun ww kk => tell 7 (show (k == 3) = false by simpa using h3) <| qF [] kk fun w5 k5 => eoT <| coF <| coS <| coR <| qR 1 [] k5 fun ww kk => tell 9 (show (k == 4) = false by simpa using h4) <| qE [] kk fun w6 k6 => coF <| coZ <| qR 1 [] k6 fun ww kk => tell 10 (show (k == 5) = false by simpa using h5) <| qF [] kk fun w7 k7 => eoT <| coF <| coR <| qR 1 [] k7 fun ww kk => tell 12 (show (k == 6) = false by simpa using h6) <| qE [] kk fun w8 k8 => coF <| coSkip <| eoB <| eoT <| qQ [] k8 fun w9 k9 => coRet <| eoIr (.int .i64 0) ⟨rfl, k9.touch.below⟩
theorem rcheckY_any (c : Cy) (W : World) : Calls Tryd.prog 11 #[cyV c] W fun e W' => e = .returned (.int .i64 (errC c)) ∧ Below W.heap.size W W' := by
  go_enter Tryd.func11, Tryd.ntmps11
  refine coStart <| qQ [] (Many.begin W) fun w1 k1 => coS <| qP 20 k1 fun w2 k2 => qD 0 [0, 1] k2 ?_
  by_cases h1 : c.kind < 1
  · rw [err_no (show okCy c = false from decide_eq_false fun x => by omega)]
    exact qT 2 k2 (fun w' _ => xBin (egI _ _ _ _ _ _) (bLtC _ _ true (decide_eq_true h1) _)) <| qM [3, 4, 5, 6, 7, 8, 9, 10, 11, 12, 13, 14, 15, 16, 17, 18, 19] k2 <| poE <| qE [] k2 fun w5 k5 => coT <| qQ [] k5 fun w6 k6 => coRet <| eoTr <| eoIr (.int .i64 1) ⟨rfl, k6.touch.below⟩
  refine qT 2 k2 (fun w' _ => xBin (egI _ _ _ _ _ _) (bLtC _ _ false (decide_eq_false h1) _)) <| qD 0 [3, 4, 5] k2 ?_
  by_cases h2 : 7 < c.kind
  · rw [err_no (show okCy c = false from decide_eq_false fun x => by omega)]
    exact qT 6 k2 (fun w' _ => xBin (egI _ _ _ _ _ _) (bGtC _ _ true (decide_eq_true h2) _)) <| qM [7, 8, 9, 10, 11, 12, 13, 14, 15, 16, 17, 18, 19] k2 <| poE <| qE [] k2 fun w5 k5 => coT <| qQ [] k5 fun w6 k6 => coRet <| eoTr <| eoIr (.int .i64 1) ⟨rfl, k6.touch.below⟩
  refine qT 6 k2 (fun w' _ => xBin (egI _ _ _ _ _ _) (bGtC _ _ false (decide_eq_false h2) _)) <| qD 0 [7, 8, 9, 10, 11, 12] k2 <| qDc 13 (rsampleY_any c.kind w2) k2 fun w4 k4 => ?_
  by_cases h3 : c.t ≤ (sampN c.kind : Int)
  · rw [err_no (show okCy c = false from decide_eq_false fun x => by omega)]
    exact qT 14 k4 (fun w' _ => xBin (egI _ _ _ _ _ _) (bLeC _ _ true (decide_eq_true h3) _)) <| qM [15, 16, 17, 18, 19] k4 <| poE <| qE [] k4 fun w5 k5 => coT <| qQ [] k5 fun w6 k6 => coRet <| eoTr <| eoIr (.int .i64 1) ⟨rfl, k6.touch.below⟩
  refine qT 14 k4 (fun w' _ => xBin (egI _ _ _ _ _ _) (bLeC _ _ false (decide_eq_false h3) _)) <| qD 0 [15, 16, 17, 18] k4 ?_
  by_cases h4 : 32 < c.t
  · rw [err_no (show okCy c = false from decide_eq_false fun x => by omega)]
    exact qT 19 k4 (fun w' _ => xBin (egI _ _ _ _ _ _) (bGtC _ _ true (decide_eq_true h4) _)) <| poE <| qE [] k4 fun w5 k5 => coT <| qQ [] k5 fun w6 k6 => coRet <| eoTr <| eoIr (.int .i64 1) ⟨rfl, k6.touch.below⟩
  · rw [err_ok (show okCy c = true from decide_eq_true ⟨by omega, by omega, by omega, by omega⟩)]
    exact qT 19 k4 (fun w' _ => xBin (egI _ _ _ _ _ _) (bGtC _ _ false (decide_eq_false h4) _)) <| poE <| qE [] k4 fun w5 k5 => coF <| coSkip <| eoT <| qQ [] k5 fun w6 k6 => coRet <| eoIr (.int .i64 0) ⟨rfl, k6.touch.below⟩
def rtickB (h s : Nat) (wait : Bool) (x : SlotsY) : List Value := [x.y 0, .bool wait, pT h 0, x.y 3, pT (h + 1) 0, .bool false, .bool false, .int .i64 (s : Int), x.y 8, x.y 9, x.y 10, x.y 11, x.y 12, x.y 13, x.y 14, x.y 15, x.y 16, x.y 17, x.y 18, x.y 19, x.y 20, x.y 21, x.y 22, x.y 23, x.y 24, x.y 25, x.y 26, x.y 27, x.y 28, x.y 29, x.y 30, x.y 31, x.y 32, x.y 33, x.y 34, x.y 35, x.y 36, x.y 37, x.y 38, x.y 39, x.y 40, x.y 41, x.y 42, x.y 43, x.y 44, x.y 45, x.y 46, x.y 47, x.y 48, x.y 49, x.y 50, x.y 51, x.y 52, x.y 53, x.y 54, x.y 55, x.y 56, x.y 57, x.y 58, x.y 59, x.y 60, x.y 61, x.y 62, x.y 63, x.y 64, x.y 65, x.y 66]
theorem rtickY_any (a : AtT) (wait : Bool) (W : World) : Calls Tryd.prog 8 #[atV a, .bool wait] W fun e W' => e = .returned (tickV a wait) ∧ Below W.heap.size W W' := by
  go_enter Tryd.func8, Tryd.ntmps8
  refine coStart <| qQ [] (Many.begin W) fun w1 k1 => coS <| coR <| qR 2 [0] k1 fun w2 k2 => qC (rcheckY_any a.c w2) k2 fun w3 k3 => qR 1 [] k3 fun w4 k4 => ?_
  by_cases h : okCy a.c = false ∨ a.k < 0 ∨ a.c.t ≤ a.k
  · unfold tickV
    rw [tick_no h]
    by_cases h1 : okCy a.c = false
    · exact tell 11 (show (errC a.c != 0) = true by rw [errC_ne, h1]; rfl) <| qE [] k4 fun w5 k5 => coT <| qQ [0, 1] k5 fun w6 k6 => coRet <| eoTr <| eoK3 (k6.row 1 (b := W.heap.size + 1) (t := 30) (atC a).toList (by kernel_rfl)) ⟨rfl, k6.touch.below⟩
    · have h1' : okCy a.c = true := by simpa using h1
      refine tell 11 (show (errC a.c != 0) = false by rw [errC_ne, h1']; rfl) <| qR 4 [0] k4 fun w5 k5 => ?_
      by_cases h2 : a.k < 0
      · exact tell 15 (show decide (a.k < 0) = true from decide_eq_true h2) <| qE [] k5 fun w5 k5 => coT <| qQ [0, 1] k5 fun w6 k6 => coRet <| eoTr <| eoK3 (k6.row 1 (b := W.heap.size + 1) (t := 30) (atC a).toList (by kernel_rfl)) ⟨rfl, k6.touch.below⟩
      · have h3 : a.c.t ≤ a.k := by rcases h with h | h | h <;> first | exact absurd h h1 | exact absurd h h2 | exact h
        exact tell 15 (show decide (a.k < 0) = false from decide_eq_false h2) <| qR 8 [0, 0] k5 fun w6 k6 => tell 23 (show decide (a.c.t ≤ a.k) = true from decide_eq_true h3) <| qE [] k6 fun w5 k5 => coT <| qQ [0, 1] k5 fun w6 k6 => coRet <| eoTr <| eoK3 (k6.row 1 (b := W.heap.size + 1) (t := 30) (atC a).toList (by kernel_rfl)) ⟨rfl, k6.touch.below⟩
  obtain ⟨h1, h2, h3, h4⟩ := tick_range h
  refine tell 11 (show (errC a.c != 0) = false by rw [errC_ne, h1]; rfl) <| qR 4 [0] k4 fun w5 k5 => tell 15 (show decide (a.k < 0) = false from decide_eq_false (by omega)) <| qR 8 [0, 0] k5 fun w6 k6 => tell 23 (show decide (a.c.t ≤ a.k) = false from decide_eq_false (by omega)) <| qE [] k6 fun w7 k7 => coF <| coSkip <| eoT ?_
  refine coR <| qR 3 [0] k7 fun w8 k8 => qC (rsampleY_any a.c.kind w8) k8 fun w9 k9 => qE [] k9 fun wa kc => ?_
  have hs4 := samp_le a.c.kind
  refine coCut (rtickB W.heap.size (sampN a.c.kind) wait) (fun _ w => Many W [] [⟨W.heap.size, 30, (atC a).toList.map some⟩, ⟨W.heap.size + 1, 30, (atC zeroAt).toList.map some⟩] w ∧ ¬ (sampN a.c.kind ≠ 0 ∧ a.k = (sampN a.c.kind : Int) - 1 ∧ wait = true)) ?_ ?_
  · refine coR <| qR 2 [] kc fun wd kd => ?_
    by_cases h5 : sampN a.c.kind = 0
    · exact tell 31 (show decide ((sampN a.c.kind : Int) > 0) = false from decide_eq_false (by omega)) <| qE [] kd fun wd kd => coF <| coSkip <| eoCut (fun y => ⟨y⟩) ⟨kd.take 2 _, fun x => x.1 h5⟩
    refine tell 31 (show decide ((sampN a.c.kind : Int) > 0) = true from decide_eq_true (by omega)) <| qR 4 [0] kd fun wd kd => kBj 36 (.int .i64 (sampN a.c.kind : Nat)) (.int .i64 1) (.int .i64 ((sampN a.c.kind : Int) - 1)) (egI _ _ _ _ _) (bSubI _ _ (by omega) (by omega)) <| qR 1 [] kd fun we ke => ?_
    by_cases h6 : a.k = (sampN a.c.kind : Int) - 1
    · cases wait with
      | false => exact tell 37 (show (a.k == (sampN a.c.kind : Int) - 1) = true by simpa using h6) <| qE [] ke fun wf kf => coF <| coSkip <| eoCut (fun y => ⟨y⟩) ⟨kf.take 2 _, fun x => by cases x.2.2⟩
      | true =>
        unfold tickV
        rw [tick_wait h ⟨h5, h6, rfl⟩]
        exact tell 37 (show (a.k == (sampN a.c.kind : Int) - 1) = true by simpa using h6) <| qE [] ke fun wf kf => coT <| qQ [0, 0] kf fun wg kg => qQ [0, 1] kg fun wh kh => coRet <| eoTr <| eoK3 (kh.row 1 (b := W.heap.size + 1) (t := 30) (atC ⟨a.c, a.k, IntKind.i64.wrap (a.w + 1)⟩).toList (by kernel_rfl)) ⟨rfl, kh.touch.below⟩
    · exact tell 37 (show (a.k == (sampN a.c.kind : Int) - 1) = false by simpa using h6) <| qE [] ke fun wf kf => coF <| coSkip <| eoCut (fun y => ⟨y⟩) ⟨kf.take 2 _, fun x => h6 x.2.1⟩
  clear k1 k2 k3 k4 k5 k6 k7 k8 k9 kc
  rintro ⟨y⟩ w1 ⟨k1, h5⟩
  unfold tickV
  rw [tick_go h h5]
  refine coR <| qR 2 [0] k1 fun w2 k2 => kBj 49 (.int .i64 a.k) (.int .i64 1) (.int .i64 (a.k + 1)) (egI _ _ _ _ _) (bAddC _ _ (by omega) (by omega)) <| qE [0] k2 fun w3 k3 => ?_
  have r0 : Row w3 W.heap.size 30 (atC ⟨a.c, a.k + 1, a.w⟩) := k3.row 0 (atC ⟨a.c, a.k + 1, a.w⟩).toList (by kernel_rfl)
  have r1 : Row w3 (W.heap.size + 1) 30 (atC zeroAt) := k3.row 1 (atC zeroAt).toList (by kernel_rfl)
  have kp := (Many.startB (c := W.heap.size + 1) r0).drew
  have r1d := r1.drew'
  refine coP (S := Many w3 [W.heap.size, W.heap.size + 1] [⟨W.heap.size, 30, (atC ⟨a.c, a.k + 1, a.w⟩).toList.map some⟩]) 18 kp ?_
  have kq := kp.beside (b := W.heap.size + 1) (by simp) (fun r hr => by simp at hr; subst hr; show W.heap.size ≠ _; omega) 0 (atC ⟨a.c, a.k + 1, a.w⟩).toList
  have rA := r1d.setAll (vs := atC ⟨a.c, a.k + 1, a.w⟩) rfl
  have hR : ∀ wA wB : World, Many w3 [W.heap.size, W.heap.size + 1] [⟨W.heap.size, 30, (atC ⟨a.c, a.k + 1, a.w⟩).toList.map some⟩] wA → Below wA.heap.size wA wB → Below W.heap.size W wB := fun wA wB k hB => by
    have := low_touch k3 k fun b hb => by simp at hb; omega
    exact this.trans (hB.mono this.size)
  by_cases h6 : sampN a.c.kind = 0
  · rw [show decide (sampN a.c.kind ≠ 0 ∧ a.k + 1 = (sampN a.c.kind : Int) + 1) = false from decide_eq_false fun x => x.1 h6]
    refine qD 0 [0, 1] kp <| qT 2 kp (fun w' _ => xBin (egI _ _ _ _ _ _) (bGtC (sampN a.c.kind : Nat) 0 false (decide_eq_false (by omega)) _)) <| qD 0 [3, 4, 5, 6, 7, 8, 9, 10, 11, 12, 13, 14, 15] kp <| poOne 16 (soW (cs := atC ⟨a.c, a.k + 1, a.w⟩) r1d kq ?_ (by rfl) rfl)
    generalize w3.drew.setCells (W.heap.size + 1) 0 (atC ⟨a.c, a.k + 1, a.w⟩).toList = wA at *
    exact qM [17] kq <| poE <| qE [] (Many.begin wA) fun wB kB => coRet <| eoK3 (rA.below kB.touch.below rA.lt) ⟨rfl, hR _ _ kq kB.touch.below⟩
  · rw [show decide (sampN a.c.kind ≠ 0 ∧ a.k + 1 = (sampN a.c.kind : Int) + 1) = decide (a.k + 1 = (sampN a.c.kind : Int) + 1) from decide_eq_decide.2 ⟨fun x => x.2, fun x => ⟨h6, x⟩⟩]
    refine qD 0 [0, 1] kp <| qT 2 kp (fun w' _ => xBin (egI _ _ _ _ _ _) (bGtC (sampN a.c.kind : Nat) 0 true (decide_eq_true (by omega)) _)) <| qD 0 [3, 4, 5, 6] kp <| qT 7 kp (fun w' _ => xBin (egI _ _ _ _ _ _) (bAddC (sampN a.c.kind : Nat) 1 (by omega) (by omega) _)) <| qD 0 [8, 9, 10, 11, 12, 13, 14, 15] kp <| poOne 16 (soW (cs := atC ⟨a.c, a.k + 1, a.w⟩) r1d kq ?_ (by rfl) rfl)
    generalize w3.drew.setCells (W.heap.size + 1) 0 (atC ⟨a.c, a.k + 1, a.w⟩).toList = wA at *
    exact qM [17] kq <| poE <| qE [] (Many.begin wA) fun wB kB => coRet <| eoK3 (rA.below kB.touch.below rA.lt) ⟨rfl, hR _ _ kq kB.touch.below⟩
def StrsIn (w : World) (B : Nat) (A : Option Addr) (l : List ByteArray) : Prop := ∀ (j : Nat) (u : Value), (tvs l)[j]? = some u → ∃ p, A = some p ∧ p.block < B ∧ w.cell? (p.add j) = some u
theorem StrsIn.keep {w w' : World} {B : Nat} {A : Option Addr} {l : List ByteArray} (h : StrsIn w B A l) (k : ∀ b, b < B → w'.heap[b]? = w.heap[b]?) : StrsIn w' B A l := fun j c hc => by
  obtain ⟨p, e, hp, h0⟩ := h j c hc
  exact ⟨p, e, hp, (World.cell?_of_block (by rw [add_block]; exact k _ hp)).trans h0⟩
theorem StrsIn.more {w : World} {B B' : Nat} {A : Option Addr} {l : List ByteArray} (h : StrsIn w B A l) (k : B ≤ B') : StrsIn w B' A l := fun j c hc => by
  obtain ⟨p, e, hp, h0⟩ := h j c hc
  exact ⟨p, e, Nat.lt_of_lt_of_le hp k, h0⟩
theorem StrsIn.below {w w' : World} {B : Nat} {A : Option Addr} {l : List ByteArray} (h : StrsIn w B A l) (k : Below B w w') : StrsIn w' B A l := h.keep fun b hb => k.block b hb
theorem StrsIn.on {w w' : World} {A : Option Addr} {l : List ByteArray} (h : StrsIn w w.heap.size A l) (k : Below w.heap.size w w') : StrsIn w' w'.heap.size A l := (h.below k).more k.size
theorem tvs_length (l : List ByteArray) : (tvs l).length = l.length := by simp [tvs]
theorem tvs_append (a b : List ByteArray) : tvs a ++ tvs b = tvs (a ++ b) := by simp [tvs]
theorem StrsIn.at_ {w : World} {B : Nat} {A : Option Addr} {l : List ByteArray} (h : StrsIn w B A l) {k : Nat} (hk : k < l.length) : ∃ p, A = some p := by
  obtain ⟨p, e, -⟩ := h k (.string l[k]) (by simp [tvs, List.getElem?_eq_getElem hk])
  exact ⟨p, e⟩
theorem StrsIn.ld {w : World} {B : Nat} {p : Addr} {l : List ByteArray} (h : StrsIn w B (some p) l) {k : Nat} (hk : k < l.length) : (Instr.loadAt 9 (.pointer (some (p.add k)))).run Tryd.prog w = .ok (.string l[k]) w := by
  obtain ⟨q, e, -, h0⟩ := h k (.string l[k]) (by simp [tvs, List.getElem?_eq_getElem hk])
  injection e with e
  subst e
  simp [go_sem, h0]
theorem ixS (p : Addr) (n c k : Nat) (h : k < n) (w : World) : (Instr.indexAt 42 (.slice (some p) n c) (.int .i64 (k : Int))).run Tryd.prog w = .ok (.pointer (some (p.add k))) w := by
  have h1 : ¬ ((k : Int) < 0) := by omega
  simp [go_sem, h1, h]
theorem own_strs {W : World} {b n : Nat} {v : Value} {l : List ByteArray} (h : W.ownsRow b 9 1 v n (tvs l)) : ∃ A c, v = .slice A n c ∧ n ≤ c ∧ StrsIn W W.heap.size A l ∧ (A = none → c = 0) := by
  rcases h.2 with ⟨e1, e2⟩ | ⟨g, c, cur, e1, -, hh, hle, -⟩
  · subst e1 e2
    have h1 := h.1
    rw [tvs_length] at h1
    obtain rfl : l = [] := List.eq_nil_of_length_eq_zero (by omega)
    exact ⟨none, 0, rfl, Nat.le_refl _, fun j u h => by simp [tvs] at h, fun _ => rfl⟩
  · subst e1
    have hv := h.cells (g := g) rfl
    exact ⟨_, c, rfl, hle, fun j u hu => ⟨_, rfl, (Array.getElem?_eq_some_iff.1 hh).1, hv j u hu⟩, fun e => by cases e⟩
theorem bsS (x : ByteArray) (w : World) : (Instr.buildSlice 42 1 #[(0, .string x)]).run Tryd.prog w = .ok (.slice (some ⟨w.heap.size, 0, none⟩) 1 1) (w.alloc (.cells #[.string x] 9)) := by simp [go_sem]
theorem bNeS (a : ByteArray) (w : World) : (binOp .neq 9 (.string a) (.string a)).run Tryd.prog w = .ok (.bool false) w := by simp [go_sem]
theorem gS (op : BinOp) (x y : Operand) (a b : ByteArray) (w : World) : (eqGuard op 9 x y (.string a) (.string b)).run Tryd.prog w = .ok () w := by simp [go_sem]
def rsmB (A1 A2 : Option Addr) (n c1 c2 : Nat) (x : LoopK) : List Value := [.slice A1 n c1, .slice A2 n c2, x.y 2, x.y 3, x.y 4, .int .i64 (x.k : Int), x.y 6, x.y 7, x.y 8, x.y 9, x.y 10, x.y 11, x.y 12, x.y 13, x.y 14, x.y 15, x.y 16, x.y 17, x.y 18, x.y 19, x.y 20, x.y 21, x.y 22, x.y 23, x.y 24, x.y 25]
theorem rsameS_any (A1 A2 : Option Addr) (c1 c2 : Nat) (l : List ByteArray) (hl : l.length ≤ 100000) (W : World) (h1 : StrsIn W W.heap.size A1 l) (h2 : StrsIn W W.heap.size A2 l) :
    Calls Tryd.prog 16 #[.slice A1 l.length c1, .slice A2 l.length c2] W fun e W' => e = .returned (.bool true) ∧ Below W.heap.size W W' := by
  go_enter Tryd.func16, Tryd.ntmps16
  refine coStart <| qQ [] (Many.begin W) fun w1 k1 => coS <| coR <| qR 5 [] k1 fun w2 k2 => tell 10 (show ((l.length : Int) != (l.length : Int)) = false by simp) <| qE [] k2 fun w3 k3 => coF <| coSkip <| eoT <| coS <| qQ [] k3 fun w4 k4 => coB <| coLoop (rsmB A1 A2 l.length c1 c2) (fun x w' => Below W.heap.size W w' ∧ x.k ≤ l.length) (fun x => l.length - x.k) (fun y => ⟨0, y⟩) ⟨k4.touch.below, Nat.zero_le _⟩ ?_
  clear k1 k2 k3 k4
  rintro ⟨k, y⟩ w' ⟨hB, hk⟩
  have hk : k ≤ l.length := hk
  refine coS <| qQ [] (Many.begin w') fun wa ka => coI (decide ((k : Int) < (l.length : Int))) (fun hlt => coSkip <| eoT <| coS <| coB ?_) fun hge => coX <| eoTx <| eoTx <| eoBx <| eoT <| qQ [] ka fun wb kb => coRet <| eoIr (.bool true) ⟨rfl, bOn hB kb⟩
  have hlt : k < l.length := by have : (k : Int) < (l.length : Int) := by simpa using hlt
                                omega
  obtain ⟨p, rfl⟩ := h1.at_ hlt
  obtain ⟨q, rfl⟩ := h2.at_ hlt
  refine qP 8 ka fun wb kb => qM [0, 1, 4, 5] kb <| qT 2 kb (fun w' _ => xIndex (ixS p l.length c1 k hlt _)) <| qT 3 kb (fun w' hS => xLoad ((h1.below (bOn hB hS)).ld hlt)) <| qT 6 kb (fun w' _ => xIndex (ixS q l.length c2 k hlt _)) <| qT 7 kb (fun w' hS => xLoad ((h2.below (bOn hB hS)).ld hlt)) <| poE <|
    wM (xBin (gS _ _ _ _ _ _) (bNeS l[k] _)) <| qE [] kb fun wc kc => coF <| coSkip <| eoB <| eoT <| coZ <| qR 1 [] kc fun wd kd => wM (xInc k (by omega)) <| qF [] kd fun we ke => eoRound (fun y => ⟨k + 1, y⟩) ⟨bOn hB ke, hlt⟩ (by show l.length - (k + 1) < l.length - k; omega)
theorem gTx (op : BinOp) (x y : Operand) (a b : ByteArray) (w : World) : (eqGuard op 9 x y (.string a) (.string b)).run Tryd.prog w = .ok () w := by simp [go_sem]
theorem bTx (a b : ByteArray) (h : a.size + b.size ≤ 1000000) (w : World) : (binOp .add 9 (.string a) (.string b)).run Tryd.prog w = .ok (.string (a ++ b)) w := by
  have h1 : ¬ (9223372036854775807 < a.size + b.size) := by omega
  simp [go_sem, h1]
section
open Go.Shelf Go.RowKit
def Sh.lays171_ren : Go.Shelf.Ren := ⟨fun | 171 => 25 | 243 => 27 | 246 => 28 | 283 => 29 | 284 => 30 | 285 => 31 | 286 => 32 | 129 => 34 | 317 => 33 | 318 => 35 | 319 => 36 | 320 => 37 | 337 => 38 | 338 => 39 | n => n, fun | 3 => 3 | 9 => 9 | 2 => 2 | 4 => 4 | 171 => 59 | 0 => 0 | 53 => 60 | 37 => 63 | 5 => 5 | 173 => 64 | 212 => 67 | 51 => 68 | 20 => 20 | 213 => 69 | 46 => 70 | 232 => 73 | 233 => 74 | n => n, fun | 17 => 1 | 18 => 2 | 19 => 3 | n => n⟩
theorem Sh.lays171 : Go.Proofs.Lays.n171 Tryd.prog Sh.lays171_ren := {
  mixed := by kernel_rfl
  f129 := Tryd.func34.trans (congrArg some (by kernel_rfl))
  f171 := Tryd.func25.trans (congrArg some (by kernel_rfl))
  f243 := Tryd.func27.trans (congrArg some (by kernel_rfl))
  f246 := Tryd.func28.trans (congrArg some (by kernel_rfl))
  f283 := Tryd.func29.trans (congrArg some (by kernel_rfl))
  f284 := Tryd.func30.trans (congrArg some (by kernel_rfl))
  f285 := Tryd.func31.trans (congrArg some (by kernel_rfl))
  f286 := Tryd.func32.trans (congrArg some (by kernel_rfl))
  f317 := Tryd.func33.trans (congrArg some (by kernel_rfl))
  f318 := Tryd.func35.trans (congrArg some (by kernel_rfl))
  f319 := Tryd.func36.trans (congrArg some (by kernel_rfl))
  f320 := Tryd.func37.trans (congrArg some (by kernel_rfl))
  f337 := Tryd.func38.trans (congrArg some (by kernel_rfl))
  f338 := Tryd.func39.trans (congrArg some (by kernel_rfl))
  t0 := Tryd.underlying0
  a0 := Tryd.isAgg0
  z0 := Tryd.sizeOf0
  v0 := Tryd.zeroValue0
  t2 := Tryd.underlying2
  a2 := Tryd.isAgg2
  z2 := Tryd.sizeOf2
  v2 := Tryd.zeroValue2
  t3 := Tryd.underlying3
  a3 := Tryd.isAgg3
  z3 := Tryd.sizeOf3
  v3 := Tryd.zeroValue3
  t4 := Tryd.underlying4
  a4 := Tryd.isAgg4
  z4 := Tryd.sizeOf4
  v4 := Tryd.zeroValue4
  t5 := Tryd.underlying5
  a5 := Tryd.isAgg5
  z5 := Tryd.sizeOf5
  v5 := Tryd.zeroValue5
  t9 := Tryd.underlying9
  a9 := Tryd.isAgg9
  z9 := Tryd.sizeOf9
  v9 := Tryd.zeroValue9
  t20 := Tryd.underlying20
  a20 := Tryd.isAgg20
  z20 := Tryd.sizeOf20
  v20 := Tryd.zeroValue20
  t37 := Tryd.underlying63
  a37 := Tryd.isAgg63
  z37 := Tryd.sizeOf63
  v37 := Tryd.zeroValue63
  t46 := Tryd.underlying70
  a46 := Tryd.isAgg70
  z46 := Tryd.sizeOf70
  v46 := Tryd.zeroValue70
  t51 := Tryd.underlying68
  a51 := Tryd.isAgg68
  z51 := Tryd.sizeOf68
  v51 := Tryd.zeroValue68
  t53 := Tryd.underlying60
  a53 := Tryd.isAgg60
  z53 := Tryd.sizeOf60
  v53 := Tryd.zeroValue60
  t171 := Tryd.underlying59
  a171 := Tryd.isAgg59
  z171 := Tryd.sizeOf59
  v171 := Tryd.zeroValue59
  t173 := Tryd.underlying64
  a173 := Tryd.isAgg64
  z173 := Tryd.sizeOf64
  v173 := Tryd.zeroValue64
  t212 := Tryd.underlying67
  a212 := Tryd.isAgg67
  z212 := Tryd.sizeOf67
  v212 := Tryd.zeroValue67
  t213 := Tryd.underlying69
  a213 := Tryd.isAgg69
  z213 := Tryd.sizeOf69
  t232 := Tryd.underlying73
  a232 := Tryd.isAgg73
  z232 := Tryd.sizeOf73
  v232 := Tryd.zeroValue73
  t233 := Tryd.underlying74
  a233 := Tryd.isAgg74
  z233 := Tryd.sizeOf74
  v233 := Tryd.zeroValue74
  g17 := by kernel_rfl
  g18 := by kernel_rfl
  g19 := by kernel_rfl }
open Go.RowKit Go.Sort Go.Lib in
theorem Sh.strconv_Itoa_small (i : Nat) (hi : i < 100) (w : World) :
    Calls Tryd.prog 25 #[.int .i64 i] w fun e w' => e = .returned (.string ⟨(Lib.decDigits i).toArray⟩) ∧ w' = w := Any.strconv_Itoa_small Sh.lays171 i hi w
end
def numB (n : Int) : ByteArray := ⟨(Lib.itoa n).toArray⟩
theorem numB_size (n : Int) (h : -9223372036854775808 ≤ n ∧ n ≤ 9223372036854775807) : (numB n).size ≤ 21 := by
  show (Lib.itoa n).toArray.size ≤ 21
  have := Lib.itoa_length_le n h.1 h.2
  simpa using this
def pick (l : List (List Nat)) (k : Int) : List Nat := l.getD k.toNat []
def regN : List (List Nat) := [[98], [99], [100], [101], [104], [108], [40, 104, 108, 41], [97]]
def pairN : List (List Nat) := [[98, 99], [100, 101], [104, 108], [115, 112]]
def stackN : List (List Nat) := [[98, 99], [100, 101], [104, 108], [97, 102]]
def condN : List (List Nat) := [[110, 122], [122], [110, 99], [99], [112, 111], [112, 101], [112], [109]]
def sumN : List (List Nat) := [[97, 100, 100, 32, 97, 44], [97, 100, 99, 32, 97, 44], [115, 117, 98, 32], [115, 98, 99, 32, 97, 44], [97, 110, 100, 32], [120, 111, 114, 32], [111, 114, 32], [99, 112, 32]]
def shiftN : List (List Nat) := [[114, 108, 99], [114, 114, 99], [114, 108], [114, 114], [115, 108, 97], [115, 114, 97], [115, 108, 108], [115, 114, 108]]
def modeN : List (List Nat) := [[48], [48], [49], [50], [48], [48], [49], [50]]
def jumpsF : List (List Nat) := [[110, 111, 112], [101, 120, 32, 97, 102, 44, 97, 102, 39], [100, 106, 110, 122, 32, 84], [106, 114, 32, 84], [106, 114, 32, 74, 44, 84], [106, 114, 32, 74, 44, 84], [106, 114, 32, 74, 44, 84], [106, 114, 32, 74, 44, 84]]
def ofPairsF : List (List Nat) := [[108, 100, 32, 80, 44, 87], [97, 100, 100, 32, 72, 44, 80]]
def movesF : List (List Nat) := [[108, 100, 32, 40, 98, 99, 41, 44, 97], [108, 100, 32, 97, 44, 40, 98, 99, 41], [108, 100, 32, 40, 100, 101, 41, 44, 97], [108, 100, 32, 97, 44, 40, 100, 101, 41], [108, 100, 32, 40, 87, 41, 44, 72], [108, 100, 32, 72, 44, 40, 87, 41], [108, 100, 32, 40, 87, 41, 44, 97], [108, 100, 32, 97, 44, 40, 87, 41]]
def countsF : List (List Nat) := [[105, 110, 99, 32, 80], [100, 101, 99, 32, 80]]
def onAF : List (List Nat) := [[114, 108, 99, 97], [114, 114, 99, 97], [114, 108, 97], [114, 114, 97], [100, 97, 97], [99, 112, 108], [115, 99, 102], [99, 99, 102]]
def returnsF : List (List Nat) := [[114, 101, 116], [101, 120, 120], [106, 112, 32, 40, 72, 41], [108, 100, 32, 115, 112, 44, 72]]
def mixedF : List (List Nat) := [[106, 112, 32, 87], [112, 114, 101, 102, 105, 120], [111, 117, 116, 32, 40, 78, 41, 44, 97], [105, 110, 32, 97, 44, 40, 78, 41], [101, 120, 32, 40, 115, 112, 41, 44, 72], [101, 120, 32, 100, 101, 44, 104, 108], [100, 105], [101, 105]]
def onBitsF : List (List Nat) := [[75, 32], [98, 105, 116, 32, 89, 44], [114, 101, 115, 32, 89, 44], [115, 101, 116, 32, 89, 44]]
def carriedF : List (List Nat) := [[115, 98, 99, 32, 72, 44, 80], [97, 100, 99, 32, 72, 44, 80]]
def storesF : List (List Nat) := [[108, 100, 32, 40, 87, 41, 44, 80], [108, 100, 32, 80, 44, 40, 87, 41]]
def specialF : List (List Nat) := [[108, 100, 32, 105, 44, 97], [108, 100, 32, 114, 44, 97], [108, 100, 32, 97, 44, 105], [108, 100, 32, 97, 44, 114], [114, 114, 100], [114, 108, 100], [110, 111, 112, 42], [110, 111, 112, 42]]
def blocksF : List (List Nat) := [[108, 100, 105], [108, 100, 100], [108, 100, 105, 114], [108, 100, 100, 114], [99, 112, 105], [99, 112, 100], [99, 112, 105, 114], [99, 112, 100, 114], [105, 110, 105], [105, 110, 100], [105, 110, 105, 114], [105, 110, 100, 114], [111, 117, 116, 105], [111, 117, 116, 100], [111, 116, 105, 114], [111, 116, 100, 114]]
def on (pl : Int) : Bool := pl == 3 || pl == 4
abbrev two (r f : Int) : Value := .tuple #[.int .u8 r, .int .u8 f]
theorem cell_kept {w w' : World} {p : Addr} {v : Value} (h : w.cell? p = some v) (k : Below w.heap.size w w') : w'.cell? p = some v :=
  (k.cell (World.block_lt_of_cell? _ _ h)).trans h
def sb (l : List Nat) : ByteArray := ⟨(l.map UInt8.ofNat).toArray⟩
def Tab (w : World) (name : String) (l : List (List Nat)) : Prop := w.var? Tryd.prog name = some (l.map (fun x => Value.string (sb x))).toArray
theorem var_below {P : Program} {w w' : World} {name : String} {cs : Array Value} (h : w.var? P name = some cs) (k : Below w.heap.size w w') : w'.var? P name = some cs := by
  unfold World.var? at h ⊢
  obtain ⟨g, hg, h⟩ := Option.bind_eq_some_iff.1 h
  rw [hg, Option.bind_some]
  have hlt : g < w.heap.size := by
    rcases Nat.lt_or_ge g w.heap.size with e | e
    · exact e
    · rw [Array.getElem?_eq_none e] at h; cases h
  rw [k.block g hlt]
  exact h
theorem Tab.at_ {w : World} {name : String} {l : List (List Nat)} {g : Nat} (h : Tab w name l) (hg : Tryd.prog.globalNamed name = some g) (i : Nat) (hi : i < l.length) : w.cell? ⟨g, i, none⟩ = some (.string (sb (pick l (i : Int)))) := by
  rw [World.var?_cell hg h i]
  simp [pick, hi]
theorem Tab.of {w : World} {name : String} {l : List (List Nat)} {g : Nat} (h : Tab w name l) (hg : Tryd.prog.globalNamed name = some g) (i : Int) (h0 : 0 ≤ i) (h1 : i < l.length) : w.cell? ⟨g, i.toNat, none⟩ = some (.string (sb (pick l i))) := by
  have := h.at_ hg i.toNat (by omega)
  rwa [show ((i.toNat : Nat) : Int) = i by omega] at this
structure TextTabs (w : World) : Prop where
  regs : Tab w "charabanc/text.registers" regN
  pairs : Tab w "charabanc/text.pairs" pairN
  stacked : Tab w "charabanc/text.stacked" stackN
  conds : Tab w "charabanc/text.conditions" condN
  sums : Tab w "charabanc/text.arithmetic" sumN
  shifts : Tab w "charabanc/text.shifts" shiftN
  modes : Tab w "charabanc/text.modes" modeN
  jumps : Tab w "charabanc/text.jumps" jumpsF
  ofPairs : Tab w "charabanc/text.ofPairs" ofPairsF
  moves : Tab w "charabanc/text.moves" movesF
  counts : Tab w "charabanc/text.counts" countsF
  onA : Tab w "charabanc/text.onA" onAF
  returns : Tab w "charabanc/text.returns" returnsF
  mixed : Tab w "charabanc/text.mixed" mixedF
  onBits : Tab w "charabanc/text.onBits" onBitsF
  carried : Tab w "charabanc/text.carried" carriedF
  stores : Tab w "charabanc/text.stores" storesF
  special : Tab w "charabanc/text.special" specialF
  blocks : Tab w "charabanc/text.blocks" blocksF
  pow : Lib.TabIs Tryd.prog w "internal/strconv.uint64pow10" .u64 Lib.pow10Tab
  bru : w.cell? ⟨3, 15, none⟩ = some (.int .u8 4)
theorem TextTabs.below {w w' : World} (h : TextTabs w) (k : Below w.heap.size w w') : TextTabs w' :=
  ⟨var_below h.regs k, var_below h.pairs k, var_below h.stacked k, var_below h.conds k, var_below h.sums k, var_below h.shifts k, var_below h.modes k, var_below h.jumps k, var_below h.ofPairs k, var_below h.moves k, var_below h.counts k, var_below h.onA k, var_below h.returns k, var_below h.mixed k, var_below h.onBits k, var_below h.carried k, var_below h.stores k, var_below h.special k, var_below h.blocks k, var_below h.pow k, cell_kept h.bru k⟩
def szOf : Value → Nat
  | .string s => s.size
  | _ => 0
theorem la_size' (l : List UInt8) : (⟨l.toArray⟩ : ByteArray).size = l.length := by show l.toArray.size = _; simp
theorem ret_bs' {a b : ByteArray} (h : a = b) : Ending.returned (.string a) = .returned (.string b) := by rw [h]
theorem pow_down10 (N : Int) (g : Nat) (h : N < 10 ^ (g + 1)) : N / 10 < 10 ^ g := by
  have : (10 : Int) ^ (g + 1) = 10 ^ g * 10 := Int.pow_succ ..
  omega
theorem bs_app' (a b : List UInt8) : (⟨a.toArray⟩ : ByteArray) ++ ⟨b.toArray⟩ = ⟨(a ++ b).toArray⟩ := by
  apply ByteArray.ext
  simp
theorem ten_cut : ∀ k : Fin 10, (⟨#[48, 49, 50, 51, 52, 53, 54, 55, 56, 57]⟩ : ByteArray).extract k.val (k.val + 1) = ⟨#[UInt8.ofNat (48 + k.val)]⟩ := by decide +kernel
def dten (k : Int) : UInt8 := UInt8.ofNat (48 + k.toNat)
theorem ten_cuts (k : Int) (h0 : 0 ≤ k) (h1 : k < 10) : (⟨#[48, 49, 50, 51, 52, 53, 54, 55, 56, 57]⟩ : ByteArray).extract k.toNat (k.toNat + 1) = ⟨#[dten k]⟩ :=
  ten_cut ⟨k.toNat, by omega⟩
theorem dec_step (u : Nat) (L : List UInt8) (h : ¬ u < 10) : Lib.decDigits u ++ L = Lib.decDigits (u / 10) ++ (UInt8.ofNat (48 + u % 10) :: L) := by
  rw [Lib.decDigits, dif_neg h, List.append_assoc]
  rfl
theorem dec_last (u : Nat) (L : List UInt8) (h : u < 10) : Lib.decDigits u ++ L = UInt8.ofNat (48 + u) :: L := by
  rw [Lib.decDigits, dif_pos h]
  rfl
theorem pow_up10 (N : Int) (f : Nat) (h0 : 0 < N) (h : N < 10 ^ f) : 0 < f := by
  rcases f with _ | f
  · simp at h; omega
  · omega
theorem rnum_pos (n : Int) (h0 : 0 ≤ n) (h1 : n ≤ 9223372036854775807) (w : World) :
    Calls Tryd.prog 26 #[.int .i64 n] w fun e w' => e = .returned (.string (numB n)) ∧ Below w.heap.size w w' := by
  have h2 : n < 10 ^ 19 := by omega
  have hI : Lib.itoa n = Lib.decDigits n.toNat ++ [] := by
    unfold Lib.itoa
    rw [if_neg (by omega), List.append_nil]
  have HI := Lib.hid hI
  clear hI
  go_enter Tryd.func26, Tryd.ntmps26
  go_wp2
  go_loopw [0, 3] (fun i s wr => ∃ (N : Int) (L : List UInt8) (f : Nat), i = .int .i64 N ∧ s = .string ⟨L.toArray⟩ ∧ 0 ≤ N ∧ N ≤ 9223372036854775807 ∧ N < 10 ^ f ∧ L.length + f = 19 ∧ 0 < f ∧ Lib.decDigits N.toNat ++ L = Lib.itoa n ∧ Below w.heap.size w wr) (fun i s _ => 19 - szOf s)
  case atStart => exact ⟨n, [], 19, rfl, rfl, h0, h1, h2, rfl, by omega, HI.out.symm, Below.refl _ _⟩
  case round =>
    obtain ⟨N, L, f, rfl, rfl, a0, a1, a2, a3, a4, a5, aB⟩ := hrel
    have hs := la_size' L
    have HE := Lib.hid a5
    have HB := Lib.hid aB
    clear a5 aB h2
    obtain ⟨g, rfl⟩ : ∃ g, f = g + 1 := ⟨f - 1, by omega⟩
    have HP := Lib.hid (pow_down10 N g a2)
    have q0 : 0 ≤ N % 10 := by omega
    have q1 : N % 10 < 10 := by omega
    have hx := ten_cuts (N % 10) q0 q1
    have q2 : (N % 10 + 1).toNat = (N % 10).toNat + 1 := by omega
    have q3 : IntKind.i64.wrap (N % 10 + 1) = N % 10 + 1 := by rw [IntKind.wrap_i64]; omega
    have q4 : N % 10 ≤ N % 10 + 1 := by omega
    have q5 : N % 10 + 1 ≤ 10 := by omega
    have r0 : 0 ≤ N / 10 := by omega
    have r1 : N / 10 ≤ 9223372036854775807 := by omega
    have hm : (N % 10).toNat = N.toNat % 10 := by omega
    have hd : (N / 10).toNat = N.toNat / 10 := by omega
    have HA := Lib.hid (bs_app' [dten (N % 10)] L)
    have hM := Lib.hid (show dten (N % 10) = UInt8.ofNat (48 + N.toNat % 10) by unfold dten; rw [hm])
    have hD := Lib.hid hd
    clear a2 a4 hm hd
    by_cases c : N < 10
    · have e0 : (N / 10 == 0) = true := by simp; omega
      have HL := Lib.hid (dec_last N.toNat L (by omega))
      have hN := Lib.hid (show N.toNat % 10 = N.toNat by omega)
      go_wp2
      go_ret
      refine ⟨ret_bs' ?_, HB.out⟩
      show (⟨[dten (N % 10)].toArray⟩ ++ ⟨L.toArray⟩ : ByteArray) = numB n
      rw [HA.out, hM.out, hN.out]
      show _ = (⟨(Lib.itoa n).toArray⟩ : ByteArray)
      rw [← HE.out, HL.out]
      rfl
    · have e0 : (N / 10 == 0) = false := by simp; omega
      have HL := Lib.hid (dec_step N.toNat L (by omega))
      have hpos : 0 < N / 10 := by omega
      have HG := Lib.hid (pow_up10 (N / 10) g hpos HP.out)
      clear hpos
      go_wp2
      go_roundw
      case rel => exact ⟨N / 10, dten (N % 10) :: L, g, rfl, by rw [HA.out]; rfl, r0, r1, HP.out, by simp; omega, HG.out, by rw [hD.out, hM.out, ← HE.out, HL.out], HB.out⟩
      case measure => show 19 - ((⟨#[dten (N % 10)]⟩ : ByteArray) ++ ⟨L.toArray⟩).size < 19 - (⟨L.toArray⟩ : ByteArray).size; rw [HA.out, hs, la_size']; simp; omega
theorem xMaxC {P : Program} {ρ : Operand → Value} {o : Oper} {x y : Operand} (a b c : Int) (hc : c = if a < b then b else a) {w : World} (ho : o.op = .call { callee := .builtin .max, args := #[x, y], argTypes := #[3, 3] } := by exact rfl) (hx : ρ x = .int .i64 a := by kernel_rfl) (hy : ρ y = .int .i64 b := by kernel_rfl) : (execOp ρ o).run P w = .ok (.value (.int .i64 c)) w := by
  subst hc
  unfold execOp
  simp [ho, hx, hy, resolve, invoke, builtin, Builtin.max_, Builtin.max2, Sem.run_bind, Sem.run_pure, Result.andThen_ok, go_sem]
theorem itoaC_any (k : Nat) (hk : k < 100) (i : Int) (hi : i = (k : Int)) (w : World) : Calls Tryd.prog 25 #[.int .i64 i] w fun e w' => e = .returned (.string ⟨(Lib.decDigits k).toArray⟩) ∧ Below w.heap.size w w' := by
  subst hi
  exact (Sh.strconv_Itoa_small k hk w).mono fun e w' ⟨h1, h2⟩ => ⟨h1, h2 ▸ Below.refl ..⟩
theorem num_itoa (k : Nat) : numB (k : Int) = ⟨(Lib.decDigits k).toArray⟩ := by
  unfold numB Lib.itoa
  rw [if_neg (by omega)]
  rfl
theorem dec_le (k : Nat) (h : k < 100) : (⟨(Lib.decDigits k).toArray⟩ : ByteArray).size ≤ 21 := by
  rw [← num_itoa]
  exact numB_size _ ⟨by omega, by omega⟩
theorem tnum_cat (k : Nat) : (⟨#[84]⟩ : ByteArray) ++ ⟨(Lib.decDigits k).toArray⟩ = tNum k := bs_app' [84] _
theorem tcat (k : Nat) (h : k < 100) (w : World) : (binOp .add 9 (.string ⟨#[84]⟩) (.string ⟨(Lib.decDigits k).toArray⟩)).run Tryd.prog w = .ok (.string (tNum k)) w := by
  rw [← tnum_cat]
  exact bTx _ _ (by have := dec_le k h; show 1 + _ ≤ _; omega) w
theorem cname_any (kind : Int) (k : Nat) (hk : k ≤ 40) (waited moved : Bool) (W : World) (ht : Samps W) : Calls Tryd.prog 22 #[.int .i64 kind, steV k waited moved] W fun e W' => e = .returned (.string (nameM (sampN kind) k waited)) ∧ Below W.heap.size W W' := by
  go_enter Tryd.func22, Tryd.ntmps22
  have hs4 := samp_le kind
  refine coStart <| qQ [] (Many.begin W) fun w1 k1 => coR <| qR 1 [] k1 fun w2 k2 => qC (csample_any kind w2 (ht.below k2.touch.below)) k2 fun w3 k3 => kBj 8 (.int .i64 (sampN kind : Nat)) (.int .i64 2) (.int .i64 ((sampN kind : Int) - 2)) (egI _ _ _ _ _) (bSubI _ _ (by omega) (by omega)) <| wM (xMaxC ((sampN kind : Int) - 2) 0 ((sampN kind - 2 : Nat) : Int) (by split <;> omega)) <| qE [] k3 fun w4 k4 => coS <| coR <| qR 3 [0] k4 fun w5 k5 => ?_
  generalize sampN kind = s at *
  cases waited with
  | true =>
    rw [show nameM s k true = twB from if_pos (.inl rfl)]
    exact qE [] k5 fun w6 k6 => coT <| qQ [] k6 fun w7 k7 => coRet <| eoTr <| eoIr (.string twB) ⟨rfl, k7.touch.below⟩
  | false =>
    refine qR 3 [0] k5 fun w6 k6 => ?_
    by_cases h2 : 2 < k
    · refine tell 15 (show decide ((k : Int) > 2) = true from decide_eq_true (by omega)) <| qR 4 [0] k6 fun w7 k7 => kBj 20 (.int .i64 2) (.int .i64 ((s - 2 : Nat) : Int)) (.int .i64 ((2 + (s - 2) : Nat) : Int)) (egI _ _ _ _ _) (fun w => by rw [show ((2 + (s - 2) : Nat) : Int) = 2 + ((s - 2 : Nat) : Int) by omega]; exact bAddC _ _ (by omega) (by omega) w) <| qR 1 [] k7 fun w8 k8 => ?_
      by_cases h3 : k ≤ 2 + (s - 2)
      · rw [show nameM s k false = twB from if_pos (.inr ⟨h2, h3⟩)]
        exact tell 21 (show decide ((k : Int) ≤ ((2 + (s - 2) : Nat) : Int)) = true from decide_eq_true (by omega)) <| qE [] k8 fun w6 k6 => coT <| qQ [] k6 fun w7 k7 => coRet <| eoTr <| eoIr (.string twB) ⟨rfl, k7.touch.below⟩
      · rw [show nameM s k false = tNum (k - (s - 2)) from (if_neg (by rintro (h | h); cases h; exact h3 h.2)).trans (if_pos h2)]
        refine tell 21 (show decide ((k : Int) ≤ ((2 + (s - 2) : Nat) : Int)) = false from decide_eq_false (by omega)) <| qE [] k8 fun w9 k9 => coF <| coSkip <| eoT <| coS <| coR <| qR 3 [0] k9 fun wa ka => tell 26 (show decide ((k : Int) > 2) = true from decide_eq_true (by omega)) <| qE [] ka fun wb kb => coT <| ?_
        exact coR <| qR 3 [0] kb fun wc kc => kBj 30 (.int .i64 (k : Int)) (.int .i64 ((s - 2 : Nat) : Int)) (.int .i64 ((k - (s - 2) : Nat) : Int)) (egI _ _ _ _ _) (fun w => by rw [show ((k - (s - 2) : Nat) : Int) = (k : Int) - ((s - 2 : Nat) : Int) by omega]; exact bSubI _ _ (by omega) (by omega) w) <| qC (itoaC_any (k - (s - 2)) (by omega) _ rfl wc) kc fun wd kd => kBj 32 (.string ⟨#[84]⟩) (.string ⟨(Lib.decDigits (k - (s - 2))).toArray⟩) (.string (tNum (k - (s - 2)))) (gTx _ _ _ _ _) (tcat _ (by omega)) <| qE [] kd fun we ke => coRet <| eoTr <| eoIr (.string (tNum (k - (s - 2)))) ⟨rfl, ke.touch.below⟩
    · rw [show nameM s k false = tNum k from (if_neg (by rintro (h | h); cases h; exact h2 h.1)).trans (if_neg h2)]
      refine tell 15 (show decide ((k : Int) > 2) = false from decide_eq_false (by omega)) <| qE [] k6 fun w9 k9 => coF <| coSkip <| eoT <| coS <| coR <| qR 3 [0] k9 fun wa ka => tell 26 (show decide ((k : Int) > 2) = false from decide_eq_false (by omega)) <| qE [] ka fun wb kb => coF <| coSkip <| eoT ?_
      exact coR <| qR 2 [0] kb fun wc kc => qC (itoaC_any k (by omega) _ rfl wc) kc fun wd kd => kBj 36 (.string ⟨#[84]⟩) (.string ⟨(Lib.decDigits k).toArray⟩) (.string (tNum k)) (gTx _ _ _ _ _) (tcat _ (by omega)) <| qE [] kd fun we ke => coRet <| eoIr (.string (tNum k)) ⟨rfl, ke.touch.below⟩
structure RnX where
  less : Nat
  y : Nat → Value
def rnmB (kind : Int) (k : Nat) (x : RnX) : List Value := [.int .i64 kind, .int .i64 (k : Int), x.y 2, x.y 3, .string ⟨#[]⟩, .int .i64 (x.less : Int), x.y 6, x.y 7, x.y 8, x.y 9, x.y 10, x.y 11, x.y 12, x.y 13, x.y 14, x.y 15, x.y 16, x.y 17, x.y 18, x.y 19, x.y 20, x.y 21, x.y 22, x.y 23, x.y 24, x.y 25, x.y 26, x.y 27, x.y 28, x.y 29, x.y 30]
theorem rnameY_any (kind : Int) (k : Nat) (hk : k ≤ 40) (W : World) : Calls Tryd.prog 24 #[.int .i64 kind, .int .i64 (k : Int)] W fun e W' => e = .returned (.string (nameM (sampN kind) k false)) ∧ Below W.heap.size W W' := by
  have hnum : ∀ (i : Nat) (w : World), i ≤ 40 → Calls Tryd.prog 26 #[.int .i64 (i : Int)] w fun e w' => e = .returned (.string ⟨(Lib.decDigits i).toArray⟩) ∧ Below w.heap.size w w' := fun i w hi => by
    have := rnum_pos (i : Int) (by omega) (by omega) w
    rwa [num_itoa] at this
  have htw : ∀ s, 2 < k → k ≤ 2 + (s - 2) → nameM s k false = twB := fun s h1 h2 => if_pos (.inr ⟨h1, h2⟩)
  have hto : ∀ s, ¬ (2 < k ∧ k ≤ 2 + (s - 2)) → nameM s k false = if 2 < k then tNum (k - (s - 2)) else tNum k := fun s h => if_neg (by rintro (h' | h'); cases h'; exact h h')
  go_enter Tryd.func24, Tryd.ntmps24
  refine coStart <| qQ [] (Many.begin W) fun w1 k1 => qQ [] k1 fun w2 k2 => coCut (rnmB kind k) (fun q w => Many W [] [] w ∧ ((kind = 4 ∨ kind = 5) → k ≠ 3) ∧ q.less = if (kind = 4 ∨ kind = 5) ∧ 3 < k then 1 else 0) ?_ ?_
  · by_cases hA : kind = 4 ∨ kind = 5
    · have hs : sampN kind = 3 := by rcases hA with rfl | rfl <;> rfl
      rw [hs]
      rcases hA with rfl | rfl
      all_goals
        refine coR <| qE [] k2 fun w3 k3 => coT <| coS <| coR <| qR 2 [] k3 fun w4 k4 => ?_
        by_cases h3 : k = 3
        · rw [htw 3 (by omega) (by omega)]
          exact tell 13 (show ((k : Int) == 3) = true by simp; omega) <| qE [] k4 fun w5 k5 => coT <| qQ [] k5 fun w6 k6 => coRet <| eoTr <| eoTr <| eoIr (.string twB) ⟨rfl, k6.touch.below⟩
        refine tell 13 (show ((k : Int) == 3) = false by simp; omega) <| qE [] k4 fun w5 k5 => coF <| coSkip <| eoT <| coR <| qR 2 [] k5 fun w6 k6 => ?_
        by_cases h4 : 3 < k
        · exact tell 15 (show decide ((k : Int) > 3) = true from decide_eq_true (by omega)) <| qE [] k6 fun w7 k7 => coT <| coZ <| qF [] k7 fun w8 k8 => eoCut (fun y => ⟨1, y⟩) ⟨k8.take 0 _, fun _ => h3, by rw [if_pos ⟨by decide, h4⟩]⟩
        · exact tell 15 (show decide ((k : Int) > 3) = false from decide_eq_false (by omega)) <| qE [] k6 fun w7 k7 => coF <| coSkip <| eoCut (fun y => ⟨0, y⟩) ⟨k7.take 0 _, fun _ => h3, by rw [if_neg fun h => h4 h.2]⟩
    · exact coR <| qR 2 [] k2 fun w3 k3 => tell 7 (show (kind == 4) = false by simp; omega) <| qR 3 [] k3 fun w4 k4 => tell 10 (show (kind == 5) = false by simp; omega) <| qE [] k4 fun w5 k5 => coF <| coSkip <| eoCut (fun y => ⟨0, y⟩) ⟨k5.take 0 _, fun h => absurd h hA, by rw [if_neg fun h => hA h.1]⟩
  clear k1 k2
  rintro ⟨less, y⟩ w1 ⟨k1, hn3, hless⟩
  dsimp only at hless
  refine coCut (rnmB kind k) (fun q w => Many W [] [] w ∧ nameM (sampN kind) k false = tNum (k - q.less) ∧ q.less ≤ k) ?_ ?_
  · by_cases hB : kind = 6
    · subst hB
      rw [if_neg (by rintro ⟨h, -⟩; omega)] at hless
      subst hless
      rw [show sampN 6 = 4 from rfl]
      refine coR <| qE [] k1 fun w3 k3 => coT <| coS <| coR <| qR 2 [] k3 fun w4 k4 => ?_
      by_cases h3 : k = 3
      · rw [htw 4 (by omega) (by omega)]
        exact tell 19 (show ((k : Int) == 3) = true by simp; omega) <| qE [] k4 fun w5 k5 => coT <| qQ [] k5 fun w6 k6 => coRet <| eoTr <| eoTr <| eoIr (.string twB) ⟨rfl, k6.touch.below⟩
      refine tell 19 (show ((k : Int) == 3) = false by simp; omega) <| qR 3 [] k4 fun w5 k5 => ?_
      by_cases h4 : k = 4
      · rw [htw 4 (by omega) (by omega)]
        exact tell 22 (show ((k : Int) == 4) = true by simp; omega) <| qE [] k5 fun w5 k5 => coT <| qQ [] k5 fun w6 k6 => coRet <| eoTr <| eoTr <| eoIr (.string twB) ⟨rfl, k6.touch.below⟩
      refine tell 22 (show ((k : Int) == 4) = false by simp; omega) <| qE [] k5 fun w5 k5 => coF <| coSkip <| eoT <| coR <| qR 2 [] k5 fun w6 k6 => ?_
      by_cases h5 : 4 < k
      · exact tell 25 (show decide ((k : Int) > 4) = true from decide_eq_true (by omega)) <| qE [] k6 fun w7 k7 => coT <| coZ <| qF [] k7 fun w8 k8 => eoCut (fun y => ⟨2, y⟩) ⟨k8.take 0 _, by rw [hto 4 (by omega), if_pos (by omega)], by show 2 ≤ k; omega⟩
      · exact tell 25 (show decide ((k : Int) > 4) = false from decide_eq_false (by omega)) <| qE [] k6 fun w7 k7 => coF <| coSkip <| eoCut (fun y => ⟨0, y⟩) ⟨k7.take 0 _, by rw [hto 4 (by omega), if_neg (by omega)]; rfl, Nat.zero_le _⟩
    · refine coR <| qR 2 [] k1 fun w3 k3 => tell 17 (show (kind == 6) = false by simp; omega) <| qE [] k3 fun w4 k4 => coF <| coSkip <| eoCut (fun y => ⟨less, y⟩) ⟨k4.take 0 _, ?_, ?_⟩
      · show nameM (sampN kind) k false = tNum (k - less)
        by_cases hA : kind = 4 ∨ kind = 5
        · have hs : sampN kind = 3 := by rcases hA with rfl | rfl <;> rfl
          have := hn3 hA
          rw [hs, hto 3 (by omega)]
          by_cases h4 : 3 < k
          · rw [if_pos ⟨hA, h4⟩] at hless
            rw [hless, if_pos (by omega)]
          · rw [if_neg fun h => h4 h.2] at hless
            rw [hless, if_neg (by omega)]
            rfl
        · rw [if_neg fun h => hA h.1] at hless
          have hs : sampN kind - 2 = 0 := by unfold sampN; split <;> (try split) <;> (try split) <;> omega
          rw [hto _ (by omega), hs, hless]
          split <;> rfl
      · show less ≤ k
        rw [hless]
        split <;> omega
  clear k1
  rintro ⟨less', y⟩ w2 ⟨k2, hnm, hle⟩
  dsimp only at hnm hle
  rw [hnm]
  exact coR <| qR 2 [] k2 fun wc kc => kBj 28 (.int .i64 (k : Int)) (.int .i64 (less' : Int)) (.int .i64 ((k - less' : Nat) : Int)) (egI _ _ _ _ _) (fun w => by rw [show ((k - less' : Nat) : Int) = (k : Int) - (less' : Int) by omega]; exact bSubI _ _ (by omega) (by omega) w) <| qC (hnum (k - less') wc (by omega)) kc fun wd kd => kBj 30 (.string ⟨#[84]⟩) (.string ⟨(Lib.decDigits (k - less')).toArray⟩) (.string (tNum (k - less'))) (gTx _ _ _ _ _) (tcat _ (by omega)) <| qE [] kd fun we ke => coRet <| eoIr (.string (tNum (k - less'))) ⟨rfl, ke.touch.below⟩
theorem atK_T {c : Cy} {ws : List Bool} {i : Nat} (h : i ≤ nSt c ws) : atK (sampN c.kind) (heldN (sampN c.kind) ws) i ≤ 40 := by
  unfold nSt at h
  split at h
  · rename_i hk
    have := (okCy_iff c).1 hk
    unfold atK
    split <;> (try split) <;> omega
  · have e : i = 0 := by omega
    rw [e, atK_zero]
    omega
theorem slClipS (A : Option Addr) (n c : Nat) (h : n ≤ c) (w : World) : (Instr.sliceAt 42 (.slice A n c) none (some (.int .i64 (n : Int))) (some (.int .i64 (n : Int)))).run Tryd.prog w = .ok (.slice A n n) w := by
  have h1 : ¬ ((n : Int) < 0) := by omega
  have h2 : ¬ ((c : Int) < n) := by omega
  simp [go_sem, h, h1, h2]
structure CnI (Z : World) (lb lo : Nat) (rc : Loop) (c : Cy) (ws : List Bool) (i : Nat) (vl : Value) (W : World) : Prop where
  row : Row W lb 42 #[vl]
  own : W.ownsRow Z.heap.size 9 1 vl i (tvs (namesL c ws i))
  lop : W.heap[lo]? = some (.loop rc)
  kept : Kept (fun x => x = lb ∨ x = lo) Z W
  apart : vl.ownBlock ≠ some Z.heap.size
def cnmB (b lb : Nat) (F : Value) (x : SlotsY) : List Value := [x.y 0, x.y 1, pT b 0, x.y 3, .slice none 0 0, pT lb 0, x.y 6, x.y 7, x.y 8, F, x.y 10, x.y 11, x.y 12, x.y 13, x.y 14, x.y 15, x.y 16, x.y 17, x.y 18, x.y 19, x.y 20, x.y 21, x.y 22, x.y 23]
theorem cnames_any (c : Cy) (ws : List Bool) (A : Option Addr) (cap : Nat) (hl : ws.length ≤ 100) (W : World) (ht : Samps W) (hw : ValsIn W W.heap.size A (blv ws)) :
    Calls Tryd.prog 17 #[cyV c, .slice A ws.length cap] W fun e W' => ∃ A', e = .returned (.slice A' (nSt c ws) (nSt c ws)) ∧ StrsIn W' W'.heap.size A' (namesL c ws (nSt c ws)) ∧ Below W.heap.size W W' := by
  refine callsIn_wide.1 (callsIn_of_wp_marks (n := 0) Tryd.func17 rfl trivial ?_)
  simp only [Tryd.ntmps17, List.size_toArray, List.length_cons, List.length_nil, Nat.reduceAdd, Nat.reduceSub, Array.replicate_succ, Array.replicate_zero, List.push_toArray, List.append_toArray, List.nil_append, List.cons_append]
  refine wpIn_wide.2 (coStart <| qQ [] (Many.begin W) fun w1 k1 => qQ [] k1 fun w2 k2 => coS <| coR <| qR 2 [0] k2 fun w3 k3 => kX (cstates_any c (.slice A ws.length cap) rfl w3) fun e w4 ⟨he, r1, r2, hb4⟩ => ⟨_, he, qE [] (Many.begin w4) fun w5 k5 => coB <| coReset (cnmB W.heap.size w1.heap.size (.func (.func 23) #[] #[pT w3.heap.size 0, pT (w3.heap.size + 1) 0])) fun sl => coIn 0 ?_⟩)
  have s1 := k1.touch.size
  have hb3 := k3.touch.below
  have rb : Row w3 W.heap.size 24 (cyC c) := k3.row 0 (cyC c).toList (by kernel_rfl)
  have rl : Row w3 w1.heap.size 42 #[.slice none 0 0] := k3.row 1 [.slice none 0 0] (by kernel_rfl)
  have rb1 : Row w1 W.heap.size 24 (cyC c) := k1.row 0 (cyC c).toList (by kernel_rfl)
  have s0 := rb1.lt
  have h35 : Below w3.heap.size w3 w5 := hb4.trans (k5.touch.below.mono hb4.size)
  have h05 : Below W.heap.size W w5 := hb3.trans (h35.mono hb3.size)
  have l1 := rl.lt
  have l2 := r2.lt
  have l5 := k5.touch.size
  have s3 := hb3.size
  have r1 := r1.below k5.touch.below r1.lt
  have r2 := r2.below k5.touch.below r2.lt
  have rb := rb.below h35 rb.lt
  have rl := rl.below h35 rl.lt
  clear k1 k2 k3 k5 rb1
  refine ciRange (gf := 23) (lb := #[pT w3.heap.size 0, pT (w3.heap.size + 1) 0]) (fun args w => by kernel_rfl) fun fn Z hbZ hD hL => ?_
  have hsZ : w5.heap.size + 1 < Z.heap.size := (Array.getElem?_eq_some_iff.1 hL).1
  have h0Z : Below W.heap.size W Z := h05.trans (hbZ.mono h05.size)
  have rb := rb.below hbZ rb.lt
  have rl := rl.below hbZ rl.lt
  refine (cgo_any (W0 := W) (lo := w5.heap.size + 1) (I := fun i W => ∃ vl, CnI Z w1.heap.size (w5.heap.size + 1) _ c ws i vl W) hl (r1.below hbZ r1.lt) (r2.below hbZ r2.lt) ⟨by omega, by omega⟩ h0Z ht hw ⟨.slice none 0 0, rl, World.ownsRow_nil .., hL, Kept.refl _ _, by intro e; cases e⟩ ?_ ?_).mono ?_
  · rintro i Wa Wb ⟨vl, a1, a2, a3, a4, a5⟩ k
    exact ⟨vl, k.row a1 (by omega), k.own a2 fun x e h => a5 (by rw [e, h]), (k.block _ (Array.getElem?_eq_some_iff.1 a3).1 (by omega)).trans a3, a4.trans k (fun _ e => e) fun x hx e => by omega, a5⟩
  · rintro Wr i hi hzr ⟨vl, con⟩
    have hN := nSt_le c ws
    have vlr := con.own.lt
    refine ⟨fn, _, _, _, run_yield (args := #[steJ c ws (i + 1)]) con.lop rfl, ciRound (base := cnmB W.heap.size w1.heap.size (.func (.func 23) #[] #[pT w3.heap.size 0, pT (w3.heap.size + 1) 0]) sl) (l := [(10, steJ c ws (i + 1))]) (by kernel_rfl) ⟨by show 10 < 24; omega, trivial⟩ ?_⟩
    refine ciZ (free_round _) (Tame.thn fun _ _ h => h) (qF [0] (Many.begin Wr) fun wa ka => eiO ?_)
    have rs : Row wa Wr.heap.size 51 (steC (atK (sampN c.kind) (heldN (sampN c.kind) ws) (i + 1)) (stW (sampN c.kind) (heldN (sampN c.kind) ws) (i + 1)) (stMv (sampN c.kind) (heldN (sampN c.kind) ws) (i + 1))) := ka.row 0 (steC (atK (sampN c.kind) (heldN (sampN c.kind) ws) (i + 1)) (stW (sampN c.kind) (heldN (sampN c.kind) ws) (i + 1)) (stMv (sampN c.kind) (heldN (sampN c.kind) ws) (i + 1))).toList (by kernel_rfl)
    have qa := Kept.of_below (S := fun _ => False) ka.touch.below
    have lopa := (qa.block _ (Array.getElem?_eq_some_iff.1 con.lop).1 fun e => e).trans con.lop
    refine eiBegin' lopa rfl fun wb gb lopb => ciB ?_
    have qb : Kept (fun x => x = w5.heap.size + 1) wa wb := (Kept.of_grown gb).mono fun x _ e => by injection e with e; exact e.symm
    have qab : Kept (fun x => x = w5.heap.size + 1) Wr wb := qa.trans qb (fun _ e => e.elim) fun _ _ e => e
    have sa := qa.size
    have sb := qb.size
    have hWr : Below W.heap.size W Wr := con.kept.low h0Z h0Z.size fun b e => by omega
    have hWb : Below W.heap.size W wb := qab.low hWr hWr.size fun b e => by omega
    have rlb := qab.row con.row (by omega)
    have rbb := qab.row (con.kept.row rb (by omega)) (by omega)
    have rsb := qb.row rs (by omega)
    have ownb := qab.own con.own fun x e h => by have := (vlr x e).1; omega
    have hk := atK_T (i := i + 1) hi
    have own0 : ∀ x, vl.ownBlock = some x → Z.heap.size < x ∧ x < Wr.heap.size := fun x e => by
      have := vlr x e
      have h2 : x ≠ Z.heap.size := fun h => con.apart (by rw [e, h])
      omega
    obtain ⟨X, hX⟩ : ∃ X, X = nmJ (sampN c.kind) (heldN (sampN c.kind) ws) (i + 1) := ⟨_, rfl⟩
    have hnm : ∀ W', Samps W' → Calls Tryd.prog 22 #[.int .i64 c.kind, steJ c ws (i + 1)] W' fun e w' => e = .returned (.string X) ∧ Below W'.heap.size W' w' := fun W' h => by
      rw [hX]
      exact cname_any c.kind _ hk _ _ W' h
    have e2 : tvs (namesL c ws i) ++ [.string X] = tvs (namesL c ws (i + 1)) := by rw [names_succ, ← tvs_append, hX]; rfl
    have hS0 : Kept (fun x => vl.ownBlock = some x) wb wb.drew := Kept.drew wb
    refine ciPCz (free_round _) (Tame.blk fun _ _ h => h) (S := Kept (fun x => vl.ownBlock = some x) wb) 7 4 ⟨(by intro c e; cases e), 22, fun a w => ⟨#[a.eval (.tmp 13), a.eval (.tmp 14)], by kernel_rfl⟩⟩ hS0 ?_
    refine qT 0 hS0 (fun w' hS => xLoad (ldOne ((hS.row rlb fun e => by have := own0 _ e; omega).cell 0))) <| qM [1] hS0 <| qT 2 hS0 (fun w' hS => xLoad (ldOne ((hS.row rbb fun e => by have := own0 _ e; omega).cell 0))) <| qT 3 hS0 (fun w' hS => xLoad (ldAll (hS.row rsb fun e => by have := own0 _ e; omega))) <| poOne 4 (soC (hnm wb.drew (ht.below hWb.drew)) fun e wc ⟨he, hbc⟩ => ⟨_, he, hS0.trans (Kept.of_below (S := fun _ => False) hbc) (fun _ e => e) (fun _ _ e => e.elim), ?_⟩)
    have hbwc : Below wb.heap.size wb wc := ((Below.refl wb.heap.size wb).drew).trans hbc
    have hcd : Below wc.heap.size wc (wc.alloc (.cells #[.string X] 9)) := Below.alloc (Below.refl _ _) (Nat.le_refl _) _
    have hbwd := hbwc.trans (hcd.mono hbwc.size)
    have sd := hbwd.size
    refine poOne 5 (soX (w' := wc.alloc (.cells #[.string X] 9)) (Kept.of_below hbwd) (xBuildS (bsS X wc)) <| poOne 6 (soOwn (.tmp 11) (.tmp 16) 42 9 1 16 (.string ⟨#[]⟩) Z.heap.size vl i (tvs (namesL c ws i)) ⟨wc.heap.size, 0, none⟩ 1 1 [.string X] (by omega) (own_below ownb hbwd) rfl (fun j u hu => (Row.new wc 9 #[.string X]).values j u hu) (fun u hu => by rw [List.mem_singleton.1 hu]; rfl) (by omega) (by omega) fun vn wf own' gr hnew => ⟨(Kept.of_below hbwd).trans (Kept.of_grown gr) (fun _ e => e) (fun _ _ e => e), ?_⟩))
    rw [e2] at own'
    obtain ⟨An, cn, rfl, hcn, -, -⟩ := own_strs own'
    have qf : Kept (fun x => vl.ownBlock = some x) wb wf := (Kept.of_below (S := fun x => vl.ownBlock = some x) hbwd).trans (Kept.of_grown gr) (fun _ e => e) (fun _ _ e => e)
    have rlf := qf.row rlb fun e => by have := own0 _ e; omega
    have lopf := (qf.block _ (Array.getElem?_eq_some_iff.1 lopb).1 fun e => by have := own0 _ e; omega).trans lopb
    refine poE <| qF [0] (Many.start rlf) fun wg kg => eiO <| eiB ?_
    have qg : Kept (fun x => x = w1.heap.size) wf wg := (Kept.of_touch kg.touch).mono fun b _ e => List.mem_singleton.1 e
    refine eiEnd' ((qg.block _ (Array.getElem?_eq_some_iff.1 lopf).1 (by omega)).trans lopf) fun wj gj lj => ?_
    have qj : Kept (fun x => x = w5.heap.size + 1) wg wj := (Kept.of_grown gj).mono fun x _ e => by injection e with e; exact e.symm
    have rlg : Row wg w1.heap.size 42 #[.slice An (i + 1) cn] := kg.row 0 [.slice An (i + 1) cn] (by kernel_rfl)
    have nlt : ∀ x, (Value.slice An (i + 1) cn).ownBlock = some x → Z.heap.size < x := fun x e => by
      rcases hnew.ge e with e | e
      · exact (own0 x e).1
      · omega
    have qA : Kept (fun x => x = w1.heap.size ∨ x = w5.heap.size + 1 ∨ vl.ownBlock = some x) Wr wj := (((qab.trans qf (U := fun x => x = w1.heap.size ∨ x = w5.heap.size + 1 ∨ vl.ownBlock = some x) (fun _ e => .inr (.inl e)) fun _ _ e => .inr (.inr e)).trans qg (fun _ e => e) fun _ _ e => .inl e).trans qj (fun _ e => e) fun _ _ e => .inr (.inl e))
    refine ⟨rfl, ⟨.slice An (i + 1) cn, qj.row rlg (by omega), qj.own (qg.own own' fun x e h => by have := nlt x e; omega) fun x e h => by have := nlt x e; omega, lj, con.kept.trans qA (fun _ e => e) fun x hx e => ?_, fun e => by have := nlt _ e; omega⟩, qA.mono fun x _ e => ?_⟩
    · rcases e with e | e | e
      · exact .inl e
      · exact .inr e
      · have := own0 x e; omega
    · unfold CyT
      rcases e with e | e | e
      · omega
      · omega
      · have := own0 x e; omega
  · rintro e W3 ⟨he, ⟨vl, con⟩, hB⟩
    obtain ⟨W4, hend, g4⟩ := endLoop_run (P := Tryd.prog) con.lop (by intro e; cases e) rfl
    refine ⟨_, W4, he, hend, eiB <| eiTo (m := 0) ?_⟩
    have q4 : Kept (fun x => x = w5.heap.size + 1) W3 W4 := (Kept.of_grown g4).mono fun x _ e => by injection e with e; exact e.symm
    have vlr := con.own.lt
    have row4 := q4.row con.row (by omega)
    have own4 := q4.own con.own fun x e h => by have := (vlr x e).1; omega
    obtain ⟨Av, cv, rfl, hcv, hst, -⟩ := own_strs own4
    have hD4 : W4.heap[w5.heap.size]? = some (.deferred (some [])) := (q4.block _ (by have := con.kept.size; omega) (by omega)).trans ((con.kept.block _ (by omega) (by omega)).trans hD)
    refine ciR free_wide (fun a w h => ?_) <| qR 5 [0, 0, 0] (Many.start row4) fun wa ka => wM (xSlice (slClipS Av (nSt c ws) cv hcv wa)) <| qF [] ka fun wf kf => eoC' <| ciRet <| eiRetM (.slice Av (nSt c ws) (nSt c ws)) ?_ ?_
    · obtain ⟨_, h, _⟩ := h
      cases h
    · exact ((Kept.of_touch kf.touch).block _ (Array.getElem?_eq_some_iff.1 hD4).1 (by simp; omega)).trans hD4
    · have b4 := q4.low hB hB.size fun b e => by omega
      have b5 := (Kept.of_touch kf.touch).low b4 b4.size fun b e => by simp at e; omega
      have own5 := (Kept.put (w := wf) (b := w5.heap.size) (.deferred none)).own ((Kept.of_touch kf.touch).own own4 fun x e h => by have := (vlr x e).1; simp at h; omega) fun x e h => by have := (vlr x e).1; omega
      obtain ⟨Aw, cw, e6, -, hst6, -⟩ := own_strs own5
      injection e6 with e7 e8 e9
      subst e7
      exact ⟨Av, rfl, hst6, (Kept.put (b := w5.heap.size) _).low b5 b5.size fun b e => by omega⟩
end Go.Proofs.YtoifkefonejeiaaDoor
