/- Contracts and facts that the claim's proof wants (several texts in one). -/
import Derived.WalkKit
import Derived.Laws.IdiomStrings
import Derived.ProofKit
import Derived.OpenShut
import Derived.ChangeArms
import Derived.Deep.Fields
import Derived.ChangeSlices
import Derived.Deep.SlicePairs
import Derived.Lib.SmallJoins
import Derived.Test.YtkgaeamdhhceiaaGreatDoorStG1
import Derived.Test.YtkgaeamdhhceiaaGreatDoorStG6
import Derived.Test.YtkgaeamdhhceiaaGreatDoorStG7
import Derived.Test.YtkgaeamdhhceiaaGreatDoorStG8
import Derived.Test.YtkgaeamdhhceiaaGreatDoorStG10
import Derived.Test.YtkgaeamdhhceiaaGreatDoorStG11
import Derived.Test.YtkgaeamdhhceiaaGreatDoorStG12
import Derived.Test.YtkgaeamdhhceiaaGreatDoorStG13
import Derived.Test.YtkgaeamdhhceiaaGreatDoorStG14
namespace Go.Proofs.YtkgaeamdhhceiaaGreatDoor
open Go.RowKit
set_option linter.unusedVariables false
set_option linter.unusedSimpArgs false
set_option maxRecDepth 20000
set_option maxHeartbeats 20000000
def minI (a b : Int) : Int := if b < a then b else a
theorem xMin {P : Program} {ρ : Operand → Value} {o : Oper} {x y : Operand} (a b : Int) {w : World} (ho : o.op = .call { callee := .builtin .min, args := #[x, y], argTypes := #[3, 3] } := by exact rfl) (hx : ρ x = .int .i64 a := by kernel_rfl) (hy : ρ y = .int .i64 b := by kernel_rfl) : (execOp ρ o).run P w = .ok (.value (.int .i64 (minI a b))) w := by
  unfold execOp
  simp [ho, hx, hy, resolve, invoke, builtin, Builtin.min_, Builtin.min2, Sem.run_bind, Sem.run_pure, Result.andThen_ok, minI, go_sem]
structure JX where
  k : Nat
  wd : Wd
  st : Int
  M : Value
  P : Value
  ob : Option Nat
  y : Nat → Value
structure JOk (B J : Nat) (Wb : World) (w0 : Wd) (q : JX) (W : World) : Prop where
  jny : Jny B J W q.wd.g q.M q.P q.ob q.wd.m q.wd.p q.k q.st
  low : Below B Wb W
  ok : OkW q.wd
  ml : q.wd.m.length ≤ w0.m.length + 200 * q.k
  pl : q.wd.p.length ≤ w0.p.length
  s0 : 0 ≤ q.st
  s1 : q.st ≤ 1400 * q.k
theorem JOk.bel {B J : Nat} {Wb : World} {w0 : Wd} {q : JX} {W W' : World} (h : JOk B J Wb w0 q W) (k : Below W.heap.size W W') : JOk B J Wb w0 q W' := ⟨h.jny.bel k, h.low.trans (k.mono h.jny.lt), h.ok, h.ml, h.pl, h.s0, h.s1⟩
theorem sround_any (hA : AccOk) {B J : Nat} {Wb : World} {w0 : Wd} {q : JX} {W : World} (h : JOk B J Wb w0 q W) (hk : q.k < 200) (hl : w0.m.length ≤ 700000) (ht : Tabs Wb B) :
    Calls Tryz.prog 27 #[pT J 0, .int .i64 0, .int .u8 0] W fun e W' => ∃ V M' P' ob', e = .returned V ∧ ∀ y, JOk B J Wb w0 ⟨q.k + 1, pstepW q.wd 0 0, q.st + (stepX q.wd 0 0).n, M', P', ob', y⟩ W' := by
  obtain ⟨k, ⟨g, m, p⟩, st, M, P, ob, y0⟩ := q
  have hn := stepX_n ⟨g, m, p⟩ 0 0
  have hml : m.length ≤ w0.m.length + 200 * k := h.ml
  have hk : k < 200 := hk
  have hs0 : 0 ≤ st := h.s0
  have hs1 : st ≤ 1400 * k := h.s1
  refine (sadvance_any hA h.ok.g 0 B8.zero h.jny (ht.keep fun b hb => h.low.block b hb) (by show 0 ≤ st ∧ st ≤ 900000; omega) (by show 0 ≤ (k : Int) ∧ (k : Int) ≤ 1000; omega) (by show m.length ≤ 800000; omega) h.ok.m h.ok.p).mono ?_
  rintro e W' ⟨A, c, he, -, -, -, -, M', P', ob', hj, q', -⟩
  have hX : (stepX ⟨g, m, p⟩ 0 0).m.length ≤ m.length + 200 := stepX_mlen ⟨g, m, p⟩ 0 0
  have hP : (stepX ⟨g, m, p⟩ 0 0).p.length ≤ p.length := stepX_plen ⟨g, m, p⟩ 0 0
  refine ⟨_, M', P', ob', he, fun y => ⟨hj, q'.low h.low h.jny.lt h.jny.js, h.ok.pstepW hA 0 B8.zero, ?_, Nat.le_trans hP h.pl, ?_, ?_⟩⟩
  · show (stepX ⟨g, m, p⟩ 0 0).m.length ≤ w0.m.length + 200 * (k + 1)
    omega
  · show 0 ≤ st + (stepX ⟨g, m, p⟩ 0 0).n
    omega
  · show st + (stepX ⟨g, m, p⟩ 0 0).n ≤ 1400 * ((k + 1 : Nat) : Int)
    omega
def prunB (V : Value) (n : Int) (a b J : Nat) (x : JX) : List Value := [V, .int .i64 n, pT a 0, x.y 3, pT b 0, .int .i64 0, pT J 0, x.y 7, x.y 8, x.y 9, x.y 10, x.y 11, x.y 12, x.y 13, x.y 14, x.y 15, x.y 16, x.y 17, x.y 18, x.y 19, x.y 20, x.y 21, x.y 22, x.y 23]
def nRun (n : Int) : Nat := (minI n 200).toNat
theorem nRun_le (n : Int) : nRun n ≤ 200 := by unfold nRun minI; split <;> omega
theorem nRun_lt (n : Int) (k : Nat) : ((k : Int) < minI n 200) ↔ k < nRun n := by unfold nRun; omega
theorem prun_any (hA : AccOk) {V : Value} {w : Wd} (n : Int) (W : World) (hw : OkW w) (hl : w.m.length ≤ 700000) (hp : w.p.length ≤ 1000000) (h : InW W W.heap.size V w) (ht : Tabs W W.heap.size) :
    Calls Tryz.prog 17 #[V, .int .i64 n] W fun e W' => ∃ V', e = .returned (.tuple #[V', .int .i64 (runW (nRun n) w).2]) ∧ InW W' W'.heap.size V' (mkW (runW (nRun n) w).1) ∧ Below W.heap.size W W' := by
  have h0 := h
  obtain ⟨A, c, A', c', rfl, -⟩ := h0
  go_enter Tryz.func17, Tryz.ntmps17
  refine coStart <| qQ [] (Many.begin W) fun w1 k1 => coR <| qR 1 [0] k1 fun w2 k2 => kX (sbegin_any w2 (h.on k2.touch.below)) fun e w3 ⟨J, M, P, he, hj, hb3⟩ => ⟨_, he, qE [] (Many.begin w3) fun w4 k4 => coS <| coB <| coLoop (prunB (worldV w.g (.slice A w.m.length c) (.slice A' w.p.length c')) n W.heap.size (W.heap.size + 1) J) (fun q W' => JOk w2.heap.size J w2 w q W' ∧ q.k ≤ nRun n ∧ (runW (nRun n - q.k) q.wd).1 = (runW (nRun n) w).1 ∧ q.st + (runW (nRun n - q.k) q.wd).2 = (runW (nRun n) w).2) (fun q => nRun n - q.k) (fun y => ⟨0, w, 0, M, P, none, y⟩) ?_ ?_⟩
  · exact ⟨⟨hj.bel k4.touch.below, hb3.trans (k4.touch.below.mono hb3.size), hw, Nat.le_refl _, Nat.le_refl _, Int.le_refl _, by show (0 : Int) ≤ 1400 * ((0 : Nat) : Int); omega⟩, Nat.zero_le _, rfl, by show (0 : Int) + _ = _; rw [Int.zero_add]; rfl⟩
  have hb2 := k2.touch.below
  have r4 : Row w2 (W.heap.size + 1) 28 (worldC zeroRg (.slice none 0 0) (.slice none 0 0)) := k2.row 1 (worldC zeroRg (.slice none 0 0) (.slice none 0 0)).toList (by kernel_rfl)
  clear k1 k2 k4 hj he
  rintro q W' ⟨hJ, hk, hr1, hr2⟩
  have hq := hJ.jny
  have hql := hq.low
  have hm := hJ.ml
  have t2 := Tabs.below ht hb2
  have hn2 := nRun_le n
  obtain ⟨k, ⟨g, m, p⟩, st, M, P, ob, y⟩ := q
  refine coS <| coR <| qR 5 [0] (Many.start hq.row) fun wa ka => wM (xMin n 200) <| qE [] ka fun wb kb => coI (decide ((k : Int) < minI n 200)) (fun hlt => coSkip <| eoT <| coB <| coZ <| ?_) fun hge => coX <| eoTx <| eoTx <| eoBx <| eoT ?_
  all_goals
    have hk : k ≤ nRun n := hk
    have hm : m.length ≤ w.m.length + 200 * k := hm
    have hJb : JOk w2.heap.size J w2 w ⟨k, ⟨g, m, p⟩, st, M, P, ob, y⟩ wb := by
      have qb : Kept (fun b => b = J) W' wb := (Kept.of_touch kb.touch).mono fun b _ e => List.mem_singleton.1 e
      have rb : Row wb J 63 (jourC g M P k st) := kb.row 0 (jourC g M P k st).toList (by kernel_rfl)
      exact ⟨hq.re qb rb (fun b e => by have e : b = J := e; exact e ▸ hq.low) (fun b e x => hq.off (x ▸ e)), qb.low hJ.low hq.lt fun b e => by have e : b = J := e; exact e ▸ hq.low, hJ.ok, hJ.ml, hJ.pl, hJ.s0, hJ.s1⟩
  · have hlt : k < nRun n := (nRun_lt n k).1 (by simpa using hlt)
    refine qR 1 [] (Many.begin wb) fun wc kc => kX (sround_any hA (hJb.bel kc.touch.below) (by show k < 200; omega) hl t2) fun e wd ⟨V', M', P', ob', he, hJ'⟩ => ⟨_, he, qF [] (Many.begin wd) fun we ke => eoB <| eoRound (fun y => ⟨k + 1, pstepW ⟨g, m, p⟩ 0 0, st + (stepX ⟨g, m, p⟩ 0 0).n, M', P', ob', y⟩) ⟨(hJ' _).bel ke.touch.below, hlt, ?_, ?_⟩ (by show nRun n - (k + 1) < nRun n - k; omega)⟩
    · have e : nRun n - k = (nRun n - (k + 1)) + 1 := by omega
      rw [← hr1]
      show _ = (runW (nRun n - k) ⟨g, m, p⟩).1
      rw [e]; rfl
    · have e : nRun n - k = (nRun n - (k + 1)) + 1 := by omega
      rw [← hr2]
      show st + (stepX ⟨g, m, p⟩ 0 0).n + _ = st + (runW (nRun n - k) ⟨g, m, p⟩).2
      rw [e]
      exact Int.add_assoc _ _ _
  · have hkn : nRun n - k = 0 := by
      have hge' : ¬ ((k : Int) < minI n 200) := by simpa using hge
      have : ¬ k < nRun n := fun e => hge' ((nRun_lt n k).2 e)
      omega
    have hr1 : (runW (nRun n - k) ⟨g, m, p⟩).1 = (runW (nRun n) w).1 := hr1
    have hr2 : st + (runW (nRun n - k) ⟨g, m, p⟩).2 = (runW (nRun n) w).2 := hr2
    rw [hkn] at hr1 hr2
    have hr1 : ⟨g, m, p⟩ = (runW (nRun n) w).1 := hr1
    have hr2 : st = (runW (nRun n) w).2 := by rw [← hr2]; show st = st + 0; omega
    rw [← hr1, ← hr2]
    have hjb := hJb.jny
    have l4 := r4.lt
    have rb : Row wb (W.heap.size + 1) 28 (worldC zeroRg (.slice none 0 0) (.slice none 0 0)) := r4.below hJb.low r4.lt
    have k7 : Many wb [J, W.heap.size + 1] [⟨J, 63, (jourC g M P k st).toList.map some⟩] wb := (Many.start hjb.row).wide fun x hx => by simp at hx; simp [hx]
    refine coP (S := Many wb [J, W.heap.size + 1] [⟨J, 63, (jourC g M P k st).toList.map some⟩]) 7 k7.drew ?_
    have hb8 : Below wb.heap.size wb wb.drew := (Below.refl _ _).drew
    obtain ⟨w8, hw8⟩ : ∃ w8, w8 = wb.drew := ⟨_, rfl⟩
    have k8 := k7.drew
    rw [← hw8] at hb8 k8 ⊢
    have hj8 := hjb.bel hb8
    have l8 := rb.lt
    have s8 := hb8.size
    refine qD 0 [0, 2, 3, 4, 5] k8 <| poOne 1 (soC (send_any hj8 (by omega) hJb.ok.m (Nat.le_trans hJb.pl hp)) fun e w9 ⟨V9, he9, hO, hb9⟩ => ⟨_, he9, k8.below hb9, ?_⟩)
    have hO0 := hO
    obtain ⟨A9, c9, Ap9, cp9, rfl, -⟩ := hO0
    have r9 := (rb.below hb8 rb.lt).below hb9 (by omega)
    have k9 := (k8.below hb9).beside (b := W.heap.size + 1) (by simp) (fun r hr => by simp at hr; subst hr; show J ≠ _; omega) 0 (worldC g (.slice A9 (mkS m).length c9) (.slice Ap9 p.length cp9)).toList
    refine poOne 6 (soW (cs := worldC g (.slice A9 (mkS m).length c9) (.slice Ap9 p.length cp9)) r9 k9 ?_ (by rfl) rfl)
    obtain ⟨wA, hwA⟩ : ∃ wA, wA = w9.setCells (W.heap.size + 1) 0 (worldC g (.slice A9 (mkS m).length c9) (.slice Ap9 p.length cp9)).toList := ⟨_, rfl⟩
    have rA := r9.setAll (vs := worldC g (.slice A9 (mkS m).length c9) (.slice Ap9 p.length cp9)) rfl
    have bA := setsB (W.heap.size + 1) (worldC g (.slice A9 (mkS m).length c9) (.slice Ap9 p.length cp9)).toList 0 (Besides.refl (W.heap.size + 1) (W.heap.size + 1) w9)
    rw [← hwA] at rA bA k9 ⊢
    have qA0 : Kept (fun b => b = W.heap.size + 1) w9 wA := ⟨bA.os, bA.tape, bA.output, bA.size, fun b hb n => bA.block b hb n n⟩
    refine poE <| qE [] (Many.begin wA) fun wB kB => coRet ?_
    have hbB := kB.touch.below
    have rB := rA.below hbB rA.lt
    have qA : Kept (fun b => b = W.heap.size + 1) w9 wB := qA0.trans (Kept.of_below (S := fun _ => False) hbB) (fun _ e => e) fun _ _ e => e.elim
    have b9 : Below w2.heap.size w2 w9 := (hJb.low.trans (hb8.mono hjb.lt)).trans (hb9.mono (Nat.le_trans hjb.lt s8))
    refine eoK2 rB ⟨_, rfl, hO.kept qA (fun b e => by have e : b = W.heap.size + 1 := e; omega), ?_⟩
    exact qA.low (hb2.trans (b9.mono hb2.size)) (Nat.le_trans hb2.size b9.size) fun b e => by have e : b = W.heap.size + 1 := e; omega
def puntB (V : Value) (pc n : Int) (a b J : Nat) (x : JX) : List Value := [V, .int .u16 pc, .int .i64 n, pT a 0, x.y 4, x.y 5, pT b 0, .int .i64 0, pT J 0, x.y 9, x.y 10, x.y 11, x.y 12, x.y 13, x.y 14, x.y 15, x.y 16, x.y 17, x.y 18, x.y 19, x.y 20, x.y 21, x.y 22, x.y 23, x.y 24, x.y 25, x.y 26, x.y 27, x.y 28, x.y 29, x.y 30, x.y 31, x.y 32, x.y 33, x.y 34, x.y 35, x.y 36, x.y 37, x.y 38, x.y 39, x.y 40, x.y 41, x.y 42, x.y 43, x.y 44]
theorem unt_stop (pc : Int) (j : Nat) {w : Wd} (h : stopsW pc w = true) : untW pc j w = (w, 0) := by
  cases j with
  | zero => rfl
  | succ j => rw [untW, if_pos h]
theorem punt_any (hA : AccOk) {V : Value} {w : Wd} (pc n : Int) (W : World) (hw : OkW w) (hl : w.m.length ≤ 700000) (hp : w.p.length ≤ 1000000) (h : InW W W.heap.size V w) (ht : Tabs W W.heap.size) :
    Calls Tryz.prog 19 #[V, .int .u16 pc, .int .i64 n] W fun e W' => ∃ V', e = .returned (.tuple #[V', .int .i64 ((untW pc (nRun n) w).2 : Int)]) ∧ InW W' W'.heap.size V' (mkW (untW pc (nRun n) w).1) ∧ Below W.heap.size W W' := by
  have h0 := h
  obtain ⟨A, c, A', c', rfl, -⟩ := h0
  go_enter Tryz.func19, Tryz.ntmps19
  refine coStart <| qQ [] (Many.begin W) fun w1 k1 => coR <| qR 1 [0] k1 fun w2 k2 => kX (sbegin_any w2 (h.on k2.touch.below)) fun e w3 ⟨J, M, P, he, hj, hb3⟩ => ⟨_, he, qE [] (Many.begin w3) fun w4 k4 => coS <| coB <| coLoop (puntB (worldV w.g (.slice A w.m.length c) (.slice A' w.p.length c')) pc n W.heap.size (W.heap.size + 1) J) (fun q W' => JOk w2.heap.size J w2 w q W' ∧ q.k ≤ nRun n ∧ (untW pc (nRun n - q.k) q.wd).1 = (untW pc (nRun n) w).1 ∧ q.k + (untW pc (nRun n - q.k) q.wd).2 = (untW pc (nRun n) w).2) (fun q => nRun n - q.k) (fun y => ⟨0, w, 0, M, P, none, y⟩) ?_ ?_⟩
  · exact ⟨⟨hj.bel k4.touch.below, hb3.trans (k4.touch.below.mono hb3.size), hw, Nat.le_refl _, Nat.le_refl _, Int.le_refl _, by show (0 : Int) ≤ 1400 * ((0 : Nat) : Int); omega⟩, Nat.zero_le _, rfl, by show 0 + _ = _; rw [Nat.zero_add]; rfl⟩
  have hb2 := k2.touch.below
  have r4 : Row w2 (W.heap.size + 1) 28 (worldC zeroRg (.slice none 0 0) (.slice none 0 0)) := k2.row 1 (worldC zeroRg (.slice none 0 0) (.slice none 0 0)).toList (by kernel_rfl)
  clear k1 k2 k4 hj he
  rintro q W' ⟨hJ, hk, hr1, hr2⟩
  have hq := hJ.jny
  have hql := hq.low
  have hm := hJ.ml
  have t2 := Tabs.below ht hb2
  have hn2 := nRun_le n
  obtain ⟨k, ⟨g, m, p⟩, st, M, P, ob, y⟩ := q
  have hk : k ≤ nRun n := hk
  have hm : m.length ≤ w.m.length + 200 * k := hm
  have hr1 : (untW pc (nRun n - k) ⟨g, m, p⟩).1 = (untW pc (nRun n) w).1 := hr1
  have hr2 : k + (untW pc (nRun n - k) ⟨g, m, p⟩).2 = (untW pc (nRun n) w).2 := hr2
  have mk : ∀ {wb : World} {l0 : List (Nat × Nat)}, Touch [J] W' wb → Row wb J 63 (jourC g M P k st) → JOk w2.heap.size J w2 w ⟨k, ⟨g, m, p⟩, st, M, P, ob, y⟩ wb := fun {wb _} ht rb => by
    have qb : Kept (fun b => b = J) W' wb := (Kept.of_touch ht).mono fun b _ e => List.mem_singleton.1 e
    exact ⟨hq.re qb rb (fun b e => by have e : b = J := e; exact e ▸ hq.low) (fun b e x => hq.off (x ▸ e)), qb.low hJ.low hq.lt fun b e => by have e : b = J := e; exact e ▸ hq.low, hJ.ok, hJ.ml, hJ.pl, hJ.s0, hJ.s1⟩
  have stop : ∀ {T : Bool}, stopsW pc ⟨g, m, p⟩ = true ∨ ¬ k < nRun n → ⟨g, m, p⟩ = (untW pc (nRun n) w).1 ∧ k = (untW pc (nRun n) w).2 := fun {T} h => by
    have e : untW pc (nRun n - k) ⟨g, m, p⟩ = (⟨g, m, p⟩, 0) := by
      rcases h with h | h
      · exact unt_stop pc _ h
      · rw [show nRun n - k = 0 by omega]; rfl
    rw [e] at hr1 hr2
    exact ⟨hr1, hr2⟩
  refine coS <| coR <| qR 9 [0] (Many.start hq.row) fun wa ka => ?_
  have cases4 : (¬ g.pc = pc ∧ g.halted = false ∧ k < nRun n) ∨ g.pc = pc ∨ (¬ g.pc = pc ∧ g.halted = true) ∨ (¬ g.pc = pc ∧ g.halted = false ∧ ¬ k < nRun n) := by
    by_cases h1 : g.pc = pc
    · exact .inr (.inl h1)
    · by_cases h2 : g.halted = true
      · exact .inr (.inr (.inl ⟨h1, h2⟩))
      · by_cases h3 : k < nRun n
        · exact .inl ⟨h1, by simpa using h2, h3⟩
        · exact .inr (.inr (.inr ⟨h1, by simpa using h2, h3⟩))
  rcases cases4 with ⟨h1, h2, hlt⟩ | h1 | ⟨h1, h2⟩ | ⟨h1, h2, h3⟩
  · refine tell 19 (show (g.pc != pc) = true by simp [h1]) <| qR 9 [0] ka fun wc kc => tell 28 (show (!g.halted) = true by simp [h2]) <| qR 5 [0] kc fun wd kd => wM (xMin n 200) <| qR 2 [] kd fun we ke => tell 36 (show decide ((k : Int) < minI n 200) = true by simpa using (nRun_lt n k).2 hlt) <| qE [] ke fun wb kb => coT <| coSkip <| eoT <| coB <| coZ <| ?_
    have hJb := mk (l0 := []) kb.touch (kb.row 0 (jourC g M P k st).toList (by kernel_rfl))
    refine qR 1 [] (Many.begin wb) fun wc kc => kX (sround_any hA (hJb.bel kc.touch.below) (by show k < 200; omega) hl t2) fun e wd ⟨V', M', P', ob', he, hJ'⟩ => ⟨_, he, qF [] (Many.begin wd) fun we ke => eoB <| eoRound (fun y => ⟨k + 1, pstepW ⟨g, m, p⟩ 0 0, st + (stepX ⟨g, m, p⟩ 0 0).n, M', P', ob', y⟩) ⟨(hJ' _).bel ke.touch.below, hlt, ?_, ?_⟩ (by show nRun n - (k + 1) < nRun n - k; omega)⟩
    all_goals
      have hns : ¬ stopsW pc ⟨g, m, p⟩ = true := by unfold stopsW; simp [h1, h2]
      have e : nRun n - k = (nRun n - (k + 1)) + 1 := by omega
      rw [e, untW, if_neg hns] at hr1 hr2
    · exact hr1
    · rw [← hr2]
      show k + 1 + _ = k + (_ + 1)
      have : ∀ x : Nat, k + 1 + x = k + (x + 1) := fun x => by omega
      exact this _
  case' refine_2.inr.inl =>
    refine tell 19 (show (g.pc != pc) = false by simp [h1]) <| qE [] ka fun wb kb => coF <| coX <| eoTx <| eoTx <| eoBx <| eoT ?_
    have hst := stop (T := true) (.inl (by unfold stopsW; simp [h1]))
  case' refine_2.inr.inr.inl =>
    refine tell 19 (show (g.pc != pc) = true by simp [h1]) <| qR 9 [0] ka fun wc kc => tell 28 (show (!g.halted) = false by simp [h2]) <| qE [] kc fun wb kb => coF <| coX <| eoTx <| eoTx <| eoBx <| eoT ?_
    have hst := stop (T := true) (.inl (by unfold stopsW; simp [h2]))
  case' refine_2.inr.inr.inr =>
    refine tell 19 (show (g.pc != pc) = true by simp [h1]) <| qR 9 [0] ka fun wc kc => tell 28 (show (!g.halted) = true by simp [h2]) <| qR 5 [0] kc fun wd kd => wM (xMin n 200) <| qR 2 [] kd fun we ke => tell 36 (show decide ((k : Int) < minI n 200) = false by simpa using fun e => h3 ((nRun_lt n k).1 e)) <| qE [] ke fun wb kb => coF <| coX <| eoTx <| eoTx <| eoBx <| eoT ?_
    have hst := stop (T := true) (.inr h3)
  all_goals
    have hJb := mk (l0 := []) kb.touch (kb.row 0 (jourC g M P k st).toList (by kernel_rfl))
    obtain ⟨hr1, hr2⟩ := hst
    rw [← hr1, ← hr2]
    have hjb := hJb.jny
    have l4 := r4.lt
    have rb : Row wb (W.heap.size + 1) 28 (worldC zeroRg (.slice none 0 0) (.slice none 0 0)) := r4.below hJb.low r4.lt
    have k7 : Many wb [J, W.heap.size + 1] [⟨J, 63, (jourC g M P k st).toList.map some⟩] wb := (Many.start hjb.row).wide fun x hx => by simp at hx; simp [hx]
    refine coP (S := Many wb [J, W.heap.size + 1] [⟨J, 63, (jourC g M P k st).toList.map some⟩]) 7 k7.drew ?_
    have hb8 : Below wb.heap.size wb wb.drew := (Below.refl _ _).drew
    obtain ⟨w8, hw8⟩ : ∃ w8, w8 = wb.drew := ⟨_, rfl⟩
    have k8 := k7.drew
    rw [← hw8] at hb8 k8 ⊢
    have hj8 := hjb.bel hb8
    have l8 := rb.lt
    have s8 := hb8.size
    refine qD 0 [0, 2, 3, 4, 5] k8 <| poOne 1 (soC (send_any hj8 (by omega) hJb.ok.m (Nat.le_trans hJb.pl hp)) fun e w9 ⟨V9, he9, hO, hb9⟩ => ⟨_, he9, k8.below hb9, ?_⟩)
    have hO0 := hO
    obtain ⟨A9, c9, Ap9, cp9, rfl, -⟩ := hO0
    have r9 := (rb.below hb8 rb.lt).below hb9 (by omega)
    have k9 := (k8.below hb9).beside (b := W.heap.size + 1) (by simp) (fun r hr => by simp at hr; subst hr; show J ≠ _; omega) 0 (worldC g (.slice A9 (mkS m).length c9) (.slice Ap9 p.length cp9)).toList
    refine poOne 6 (soW (cs := worldC g (.slice A9 (mkS m).length c9) (.slice Ap9 p.length cp9)) r9 k9 ?_ (by rfl) rfl)
    obtain ⟨wA, hwA⟩ : ∃ wA, wA = w9.setCells (W.heap.size + 1) 0 (worldC g (.slice A9 (mkS m).length c9) (.slice Ap9 p.length cp9)).toList := ⟨_, rfl⟩
    have rA := r9.setAll (vs := worldC g (.slice A9 (mkS m).length c9) (.slice Ap9 p.length cp9)) rfl
    have bA := setsB (W.heap.size + 1) (worldC g (.slice A9 (mkS m).length c9) (.slice Ap9 p.length cp9)).toList 0 (Besides.refl (W.heap.size + 1) (W.heap.size + 1) w9)
    rw [← hwA] at rA bA k9 ⊢
    have qA0 : Kept (fun b => b = W.heap.size + 1) w9 wA := ⟨bA.os, bA.tape, bA.output, bA.size, fun b hb n => bA.block b hb n n⟩
    refine poE <| qE [] (Many.begin wA) fun wB kB => coRet ?_
    have hbB := kB.touch.below
    have rB := rA.below hbB rA.lt
    have qA : Kept (fun b => b = W.heap.size + 1) w9 wB := qA0.trans (Kept.of_below (S := fun _ => False) hbB) (fun _ e => e) fun _ _ e => e.elim
    have b9 : Below w2.heap.size w2 w9 := (hJb.low.trans (hb8.mono hjb.lt)).trans (hb9.mono (Nat.le_trans hjb.lt s8))
    refine eoK2 rB ⟨_, rfl, hO.kept qA (fun b e => by have e : b = W.heap.size + 1 := e; omega), ?_⟩
    exact qA.low (hb2.trans (b9.mono hb2.size)) (Nat.le_trans hb2.size b9.size) fun b e => by have e : b = W.heap.size + 1 := e; omega
def strB (l : List Int) : ByteArray := ⟨(l.map (fun x => UInt8.ofNat x.toNat)).toArray⟩
theorem byte_there {x : Int} (h : 0 ≤ x ∧ x ≤ 255) : ((UInt8.ofNat x.toNat).toNat : Int) = x := by
  have h1 := h.1
  have h2 := h.2
  have e : (UInt8.ofNat x.toNat).toNat = x.toNat % 256 := UInt8.toNat_ofNat'
  rw [e]
  omega
theorem convB {W : World} {B : Nat} {A : Option Addr} {l : List Int} {c : Nat} (h : BytesIn W B A l) (hl : ∀ x ∈ l, 0 ≤ x ∧ x ≤ 255) : (convert 26 9 (.slice A l.length c)).run Tryz.prog W = .ok (.string (strB l)) W := by
  cases l with
  | nil =>
    refine (run_convert_bytes_string W 26 9 5 A 0 c Tryz.underlying26 Tryz.underlying5 Tryz.underlying9).trans ?_
    cases A <;> rfl
  | cons x r =>
    obtain ⟨p, rfl, -⟩ := h 0 x rfl
    have hlen : ((x :: r).map (fun x => UInt8.ofNat x.toNat)).length = (x :: r).length := by simp
    have k := run_convert_bytes_back (P := Tryz.prog) W 26 9 5 p c ((x :: r).map (fun x => UInt8.ofNat x.toNat)) Tryz.underlying26 Tryz.underlying5 Tryz.underlying9 (fun j hj => by
      have hj' : j < (x :: r).length := by simpa using hj
      obtain ⟨ad, e2, -, e3⟩ := h j (x :: r)[j] (List.getElem?_eq_getElem hj')
      cases e2
      rw [e3]
      simp only [List.getElem_map]
      rw [byte_there (hl _ (List.getElem_mem hj'))])
    rw [hlen] at k
    exact k
theorem eqStr (s : ByteArray) (w : World) : (binOp .eql 9 (.string s) (.string s)).run Tryz.prog w = .ok (.bool true) w := by simp [go_sem]
theorem guardStr (op : BinOp) (x y : Operand) (a b : ByteArray) (w : World) : (eqGuard op 9 x y (.string a) (.string b)).run Tryz.prog w = .ok () w := by simp [go_sem]
theorem splain_any (g : Rg) (A A' : Option Addr) (n c n' c' : Nat) (W : World) : Calls Tryz.prog 11 #[worldV g (.slice A n c) (.slice A' n' c')] W fun e W' => e = .returned (worldV g (.slice A n c) (.slice A' n' c')) ∧ Below W.heap.size W W' := by
  go_enter Tryz.func11, Tryz.ntmps11
  refine coStart <| qQ [] (Many.begin W) fun w1 k1 => qQ [0, 0, 0, 1] k1 fun w2 k2 => coRet ?_
  have r : Row w2 (W.heap.size + 1) 34 (worldC g (.slice A n c) (.slice A' n' c')) := k2.row 1 (worldC g (.slice A n c) (.slice A' n' c')).toList (by kernel_rfl)
  exact eoK1 r ⟨rfl, k2.touch.below⟩
theorem ssame_any {V1 V2 : Value} {w : Wd} (W : World) (h1 : InW W W.heap.size V1 w) (h2 : InW W W.heap.size V2 w) (hp : Bytes8 w.p) (hl : w.m.length ≤ 1000000000) : Calls Tryz.prog 12 #[V1, V2] W fun e W' => e = .returned (.bool true) ∧ Below W.heap.size W W' := by
  obtain ⟨g, m, p⟩ := w
  obtain ⟨A1, c1, B1, d1, rfl, hc1, hn1, hle1, hb1, hm1, hld1⟩ := h1
  obtain ⟨A2, c2, B2, d2, rfl, hc2, hn2, hle2, hb2, hm2, hld2⟩ := h2
  go_enter Tryz.func12, Tryz.ntmps12
  refine coStart <| qQ [] (Many.begin W) fun w1 k1 => coR <| qR 4 [0, 1] k1 fun w2 k2 => kBj 9 (regsV g) (regsV g) (.bool true) (regs_guard _ _ _ _ _) (regs_eql g) <| qR 5 [0, 1] k2 fun w3 k3 => ?_
  have b3 := k3.touch.below
  have KC := (csame_any A1 c1 m A2 c2 m hl w3 ((hc1.below b3).more b3.size) ((hc2.below b3).more b3.size)).mono (R' := fun e w' => e = .returned (.bool true) ∧ Below w3.heap.size w3 w') fun e w' ⟨h1, h2⟩ => ⟨by rw [h1, decide_eq_true rfl], h2⟩
  refine qC KC k3 fun w4 k4 => qR 4 [0] k4 fun w5 k5 => wM (xConv (convB (l := p) (c := d1) (hb1.below k5.touch.below) fun x hx => hp x hx)) <| qR 2 [1] k5 fun w6 k6 => wM (xConv (convB (l := p) (c := d2) (hb2.below k6.touch.below) fun x hx => hp x hx)) <| kBj 24 (.string (strB p)) (.string (strB p)) (.bool true) (guardStr _ _ _ _ _) (eqStr _) <| qE [] k6 fun w7 k7 => coRet <| eoIr (.bool true) ⟨rfl, k7.touch.below⟩
theorem same_any {V1 V2 : Value} {w : Wd} (W : World) (h1 : InW W W.heap.size V1 w) (h2 : InW W W.heap.size V2 w) (hp : Bytes8 w.p) (hl : w.m.length ≤ 1000000000) : Calls Tryz.prog 21 #[V1, V2] W fun e W' => e = .returned (.bool true) ∧ Below W.heap.size W W' := by
  have h1' := h1
  have h2' := h2
  obtain ⟨A1, c1, B1, d1, rfl, -⟩ := h1'
  obtain ⟨A2, c2, B2, d2, rfl, -⟩ := h2'
  go_enter Tryz.func21, Tryz.ntmps21
  refine coStart <| qQ [] (Many.begin W) fun w1 k1 => qP 5 k1 fun w2 k2 => qD 0 [0] k2 <| qD 1 [2] k2 <| qDc 1 (splain_any w.g A1 B1 w.m.length c1 w.p.length d1 w2) k2 fun w3 k3 => qDc 3 (splain_any w.g A2 B2 w.m.length c2 w.p.length d2 w3) k3 fun w4 k4 => qDc 4 (ssame_any w4 (h1.on k4.touch.below) (h2.on k4.touch.below) hp hl) k4 fun w5 k5 => poE <| qE [] k5 fun w6 k6 => coRet <| eoIr (.bool true) ⟨rfl, k6.touch.below⟩
def fewS (w : Wd) : Bool := decide ((w.m.length : Int) ≤ 80) && decide ((w.p.length : Int) ≤ 40)
theorem sfew_any {V : Value} {w : Wd} (W : World) (h : InW W W.heap.size V w) : Calls Tryz.prog 8 #[V] W fun e W' => e = .returned (.bool (fewS w)) ∧ Below W.heap.size W W' := by
  obtain ⟨A, c, A', c', rfl, -⟩ := h
  go_enter Tryz.func8, Tryz.ntmps8
  refine coStart <| qQ [] (Many.begin W) fun w1 k1 => coR <| qR 5 [0] k1 fun w2 k2 => ?_
  by_cases h : (w.m.length : Int) ≤ 80
  · refine tell 7 (show decide ((w.m.length : Int) ≤ 80) = true by simpa using h) <| qE [0] k2 fun w3 k3 => coRet <| eoIr (.bool (decide ((w.p.length : Int) ≤ 40))) ⟨?_, k3.touch.below⟩
    rw [fewS, decide_eq_true h, Bool.true_and]
  · refine tell 7 (show decide ((w.m.length : Int) ≤ 80) = false by simpa using h) <| qE [0] k2 fun w3 k3 => coRet <| eoIr (.bool false) ⟨?_, k3.touch.below⟩
    rw [fewS, decide_eq_false h, Bool.false_and]
structure SentX where
  k : Nat
  v : Value
  y : Nat → Value
def psentB (A : Option Addr) (n c : Nat) (x : SentX) : List Value := [.slice A n c, x.y 1, .slice none 0 0, x.v, x.y 4, x.y 5, .slice A n c, .int .i64 (n : Int), .int .i64 (x.k : Int), x.y 9, x.y 10, x.y 11, x.y 12, x.y 13, x.y 14, x.y 15, x.y 16, x.y 17, x.y 18, x.y 19, x.y 20, x.y 21, x.y 22, x.y 23, x.y 24]
def psentI (W : World) (l : List Cy) (x : SentX) (W' : World) : Prop := Below W.heap.size W W' ∧ W'.ownsRow W.heap.size 67 2 x.v (sentL (l.take x.k)).length (cvs (sentL (l.take x.k))) ∧ x.k ≤ l.length
theorem sent_take (l : List Cy) (k : Nat) (h : k < l.length) : sentL (l.take (k + 1)) = if l[k].kind = 5 then sentL (l.take k) ++ [(l[k].addr, l[k].data)] else sentL (l.take k) := by rw [← List.take_append_getElem h, sent_snoc]
theorem sent_len (l : List Cy) : (sentL l).length ≤ l.length := by
  unfold sentL
  rw [List.length_map]
  exact List.length_filter_le _ _
theorem psent_any (A : Option Addr) (c : Nat) (l : List Cy) (hl : l.length ≤ 1000) (W : World) (hin : CysIn W W.heap.size A l) : Calls Tryz.prog 15 #[.slice A l.length c] W (Gives W (sentL l)) := by
  go_enter Tryz.func15, Tryz.ntmps15
  refine coStart <| qQ [] (Many.begin W) fun w1 k1 => qQ [] k1 fun w2 k2 => coS <| qQ [] k2 fun w3 k3 => coB <| coLoop (psentB A l.length c) (psentI W l) (fun x => l.length - x.k) (fun y => ⟨0, .slice none 0 0, y⟩) ⟨k3.touch.below, World.ownsRow_nil .., Nat.zero_le _⟩ ?_
  rintro ⟨k, v, y⟩ W' ⟨hB, hown, hk⟩
  have hk : k ≤ l.length := hk
  have hown : W'.ownsRow W.heap.size 67 2 v (sentL (l.take k)).length (cvs (sentL (l.take k))) := hown
  have hsl : (sentL (l.take k)).length ≤ 1000 := Nat.le_trans (sent_len _) (by rw [List.length_take]; omega)
  refine qQ [] (Many.begin W') fun wa ka => coS <| coI (decide ((k : Int) < (l.length : Int))) (fun hlt => coSkip <| eoT <| coS <| coB <| ?_) fun hge => coX <| eoTx <| eoTx <| eoBx <| eoT ?_
  · have hlt : k < l.length := by have : (k : Int) < (l.length : Int) := by simpa using hlt
                                  omega
    obtain ⟨p, rfl⟩ := hin.addr hlt
    have ha := hin.below (bOn hB ka)
    refine coR <| wM (xIndex (cixY p l.length c k hlt _)) <| wM (xLoad (CysIn.ld ha hlt)) <| qE [0] ka fun wb kb => qQ [0] kb fun wc kc => coI (l[k].kind == 5) (fun h5 => coZ <| qR 6 [0, 0] kc fun wd kd => wM (xBuildS (bsC l[k].addr l[k].data wd)) <| ?_) fun h5 => coSkip <| eoB <| eoT <| coZ <| wM (xInc k (by omega)) <| qF [] kc fun we ke => eoRound (fun y => ⟨k + 1, v, y⟩) ⟨bOn hB ke, ?_, hlt⟩ (by show l.length - (k + 1) < l.length - k; omega)
    · have h5 : l[k].kind = 5 := by simpa using h5
      have hownb := (own_below hown kd.touch.below).alloc (.cells #[.int .u16 l[k].addr, .int .u8 l[k].data] 67)
      refine qAc (.tmp 15) (.tmp 21) W.heap.size _ v (sentL (l.take k)).length (sentL (l.take k)) (some ⟨wd.heap.size, 0, none⟩) 1 [(l[k].addr, l[k].data)] (bAlloc (bOn hB kd) _).size hownb (ccell_new wd _ _ _) (fun e => by cases e) (by show _ + 1 ≤ _; omega) fun v' we own' g' => ?_
      have hBe := below_own (bAlloc (bOn hB kd) _) g' hownb (Nat.le_refl _) (bAlloc (bOn hB kd) _).size
      refine qF [] (Many.begin we) fun wf kf => eoB <| eoT <| coZ <| wM (xInc k (by omega)) <| qF [] kf fun wg kg => eoRound (fun y => ⟨k + 1, v', y⟩) ⟨bOn hBe kg, ?_, hlt⟩ (by show l.length - (k + 1) < l.length - k; omega)
      show wg.ownsRow _ _ _ v' (sentL (l.take (k + 1))).length (cvs (sentL (l.take (k + 1))))
      rw [sent_take l k hlt, if_pos h5, List.length_append]
      exact own_below own' kg.touch.below
    · have h5 : ¬ l[k].kind = 5 := by simpa using h5
      show we.ownsRow _ _ _ v (sentL (l.take (k + 1))).length (cvs (sentL (l.take (k + 1))))
      rw [sent_take l k hlt, if_neg h5]
      exact own_below hown ke.touch.below
  · have hkl : k = l.length := by have : ¬ ((k : Int) < (l.length : Int)) := by simpa using hge
                                  omega
    subst hkl
    rw [List.take_length] at hown
    obtain ⟨A', c', rfl, hc, hci, hn⟩ := own_cslice hown
    exact qQ [] ka fun wz kz => coRet <| eoIr (.slice A' (sentL l).length c') ⟨A', c', rfl, (hci.below kz.touch.below).more kz.touch.size, hc, hn, bOn hB kz⟩
theorem c16_dec {l : List (Int × Int)} (h : (l.all fun c => decide (0 ≤ c.1) && decide (c.1 ≤ 65535) && decide (0 ≤ c.2) && decide (c.2 ≤ 255)) = true) : Cells16 l := fun c hc => by
  have := List.all_eq_true.1 h c hc
  simp only [Bool.and_eq_true, decide_eq_true_eq] at this
  exact ⟨this.1.1.1, this.1.1.2, this.1.2, this.2⟩
theorem ldAll {P : Program} {w : World} {b : Nat} {t u : TypeId} {cs : Array Value} (r : Row w b u cs) (ht : ((P.underlying t).map (·.isRow), (P.info? t).map (·.size)) = (some true, some cs.size) := by kernel_rfl) : (Instr.loadAt t (pT b 0)).run P w = .ok (.agg cs) w := by
  simp only [Prod.mk.injEq] at ht
  cases hu : P.underlying t with
  | none => rw [hu] at ht; cases ht.1
  | some d =>
    rw [hu] at ht
    have hd : d.isRow = true := by have := ht.1; injection this
    exact load_row r hu hd ht.2
def wA : Wd := ⟨zeroRg, mkS (loadL 0 [62, 7, 50, 16, 0]), []⟩
theorem aw_run : (runW (nRun 2) wA).2 = 20 := by kernel_rfl
theorem aw_af : (mkW (runW (nRun 2) wA).1).g.af = 1792 := by kernel_rfl
theorem aw_get : getC (mkW (runW (nRun 2) wA).1).m 16 = 7 := by kernel_rfl
theorem aw_ml : (mkW (runW (nRun 2) wA).1).m.length ≤ 100 := of_decide_eq_true (by kernel_rfl)
theorem aw_unt : (untW 2 (nRun 9) wA).2 = 1 := by kernel_rfl
theorem aw_untW : mkW (untW 2 (nRun 9) wA).1 = mkW (pstepW wA 0 0) := by kernel_rfl
theorem aw_n : (stepX wA 0 0).n = 7 := by kernel_rfl
theorem aw_l : (stepX wA 0 0).l = [⟨1, 0, 62, 4⟩, ⟨2, 1, 7, 3⟩] := by kernel_rfl
theorem aw_ok : OkW wA := ⟨by constructor <;> first | exact ⟨by decide, by decide⟩ | decide, c16_dec (l := wA.m) (by kernel_rfl), fun x hx => by cases hx⟩
theorem aw_sp : (mkW (pstepW wA 0 0)).p = [] := by kernel_rfl
theorem aw_sm : (mkW (pstepW wA 0 0)).m.length ≤ 100 := of_decide_eq_true (by kernel_rfl)
theorem awake15_any (hA : AccOk) (w : World) (ht : Tabs w w.heap.size) : Calls Tryz.prog 7 #[] w fun e w' => e = .returned (.bool true) ∧ Below w.heap.size w w' := by
  go_enter Tryz.func7, Tryz.ntmps7
  refine coStart <| qQ [] (Many.begin w) fun w1 k1 => coR <| qR 1 [] k1 fun w2 k2 => ?_
  have hb2 := k2.touch.below
  have hy := plane_row (k2.row 0 (b := w1.heap.size) (t := 5) (bvs [62, 7, 50, 16, 0]) (by kernel_rfl))
  refine kX (rcload_any none 0 [] 0 (some ⟨w1.heap.size, 0, none⟩) 5 [62, 7, 50, 16, 0] (by simp) (fun c hc => by cases hc) (by omega) (by simp) (fun b hb => by simp at hb; omega) w2 (CellsIn.nil _ _ _) (fun _ => rfl) hy) fun e w3 ⟨A1, c1, he, hc1, hl1, hn1, hb3⟩ => ⟨_, he, qE [0] (Many.begin w3) fun w4 k4 => ?_⟩
  have hb4 := k4.touch.below
  have h1 : InW w4 w4.heap.size (worldV zeroRg (.slice A1 (mkS ([] ++ loadL 0 [62, 7, 50, 16, 0])).length c1) (.slice none 0 0)) wA := ⟨A1, c1, none, 0, rfl, (hc1.below hb4).more hb4.size, hn1, hl1, BytesIn.nil _ _ _, fun _ => rfl, Nat.le_refl _⟩
  have r1 : Row w4 w3.heap.size 28 (worldC zeroRg (.slice A1 (mkS ([] ++ loadL 0 [62, 7, 50, 16, 0])).length c1) (.slice none 0 0)) := k4.row 0 (worldC zeroRg (.slice A1 (mkS ([] ++ loadL 0 [62, 7, 50, 16, 0])).length c1) (.slice none 0 0)).toList (by kernel_rfl)
  have hB4 : Below w.heap.size w w4 := (hb2.trans (hb3.mono hb2.size)).trans (hb4.mono (Nat.le_trans hb2.size hb3.size))
  -- Run
  have KR := prun_any hA 2 w4 aw_ok (by decide) (by decide) h1 (ht.below hB4)
  rw [aw_run] at KR
  obtain ⟨wR, hwR⟩ : ∃ wR, wR = mkW (runW (nRun 2) wA).1 := ⟨_, rfl⟩
  have haf : wR.g.af = 1792 := by rw [hwR]; exact aw_af
  have hget : getC wR.m 16 = 7 := by rw [hwR]; exact aw_get
  have hml : wR.m.length ≤ 100 := by rw [hwR]; exact aw_ml
  rw [← hwR] at KR
  refine coR <| wM (xLoad (ldAll r1)) <| kX KR fun e w6 ⟨V2, he, h2, hb6⟩ => ⟨_, he, ?_⟩
  have h2' := h2
  obtain ⟨A2, c2, B2, d2, rfl, hc2, -⟩ := h2'
  refine qE [0] (Many.begin w6) fun w7 k7 => ?_
  have hb7 := k7.touch.below
  have r2 : Row w7 w6.heap.size 28 (worldC wR.g (.slice A2 wR.m.length c2) (.slice B2 wR.p.length d2)) := k7.row 0 (worldC wR.g (.slice A2 wR.m.length c2) (.slice B2 wR.p.length d2)).toList (by kernel_rfl)
  have h47 : Below w4.heap.size w4 w7 := hb6.trans (hb7.mono hb6.size)
  have hB7 := hB4.trans (h47.mono hB4.size)
  have r17 := r1.below h47 r1.lt
  have hc2 := (hc2.below hb7).more hb7.size
  -- Until
  have KU := punt_any hA 2 9 w7 aw_ok (by decide) (by decide) (h1.on h47) (ht.below hB7)
  rw [aw_unt, aw_untW] at KU
  obtain ⟨wS, hwS⟩ : ∃ wS, wS = mkW (pstepW wA 0 0) := ⟨_, rfl⟩
  have hsp : wS.p = [] := by rw [hwS]; exact aw_sp
  have hsm : wS.m.length ≤ 100 := by rw [hwS]; exact aw_sm
  rw [← hwS] at KU
  refine coR <| wM (xLoad (ldAll r17)) <| kX KU fun e w8 ⟨V4, he, h4, hb8⟩ => ⟨_, he, ?_⟩
  have h4' := h4
  obtain ⟨A4, c4, B4, d4, rfl, -⟩ := h4'
  refine qE [0] (Many.begin w8) fun w9 k9 => ?_
  have hb9 := k9.touch.below
  have r4 : Row w9 w8.heap.size 28 (worldC wS.g (.slice A4 wS.m.length c4) (.slice B4 wS.p.length d4)) := k9.row 0 (worldC wS.g (.slice A4 wS.m.length c4) (.slice B4 wS.p.length d4)).toList (by kernel_rfl)
  have h79 : Below w7.heap.size w7 w9 := hb8.trans (hb9.mono hb8.size)
  have hB9 := hB7.trans (h79.mono hB7.size)
  have r19 := r17.below h79 r17.lt
  have r29 := r2.below h79 r2.lt
  -- Step
  have KS := pstep_any hA 0 0 w9 aw_ok B8.zero (by decide) (by decide) ((h1.on h47).on h79) (ht.below hB9)
  rw [aw_n, aw_l, ← hwS] at KS
  refine coR <| wM (xLoad (ldAll r19)) <| kX KS fun e wa ⟨V6, A6, c6, he, h6, hcy, hny, hly, hba⟩ => ⟨_, he, ?_⟩
  have h6' := h6
  obtain ⟨A7, c7, B7, d7, rfl, -⟩ := h6'
  obtain ⟨pY, rfl⟩ := hcy.addr (k := 0) (by decide)
  refine qE [0] (Many.begin wa) fun wb kb => ?_
  have hbb := kb.touch.below
  have r6 : Row wb wa.heap.size 28 (worldC wS.g (.slice A7 wS.m.length c7) (.slice B7 wS.p.length d7)) := kb.row 0 (worldC wS.g (.slice A7 wS.m.length c7) (.slice B7 wS.p.length d7)).toList (by kernel_rfl)
  have h9b : Below w9.heap.size w9 wb := hba.trans (hbb.mono hba.size)
  have hBb := hB9.trans (h9b.mono hB9.size)
  have r2b := r29.below h9b r29.lt
  have r4b := r4.below h9b r4.lt
  have hcb := hcy.below hbb
  have h4b := (h4.on hb9).on h9b
  have h6b := h6.on hbb
  have hc2b := ((hc2.below h79).below (h9b.mono h79.size)).more (Nat.le_trans h79.size h9b.size)
  have KG := fun (W : World) (hW : CellsIn W W.heap.size A2 wR.m) => rcget_any A2 c2 wR.m 16 (by omega) W hW
  rw [hget] at KG
  refine coR <| qR 2 [] (Many.begin wb) fun wc kc => ?_
  have r2c := r2b.below kc.touch.below r2b.lt
  refine wM (xLoad (ldOne (r2c.cell 0))) <| qR 1 [] kc fun wd kd => tell 31 (show (wR.g.af == 1792) = true by simp [haf]) <| qR 2 [] kd fun we ke => ?_
  have r2e := r2b.below ke.touch.below r2b.lt
  refine wM (xLoad (ldOne (r2e.cell 20))) <| qC (KG we ((hc2b.below ke.touch.below).more ke.touch.size)) ke fun wf kf => qR 11 [] kf fun wg kg => ?_
  have hg := kg.touch.below
  refine wM (xLoad (ldAll (r4b.below hg r4b.lt))) <| wM (xLoad (ldAll (r6.below hg r6.lt))) <| qC (same_any (w := wS) wg (h4b.on hg) (h6b.on hg) (by rw [hsp]; intro x hx; cases hx) (by omega)) kg fun wh kh => qR 8 [] kh fun wi ki => ?_
  have hcI := (hcb.more (B' := wb.heap.size) hbb.size).below ki.touch.below
  refine wM (xIndex (cixY pY 2 c6 1 (by decide) wi)) <| wM (xLoad (CysIn.ld hcI (k := 1) (by decide))) <| qR 1 [] ki fun wj kj => kBj 61 (cyV ⟨2, 1, 7, 3⟩) (cyV ⟨2, 1, 7, 3⟩) (.bool true) (cy_guard _ _ _ _ _) (cy_eql _) <| qR 7 [] kj fun wk kk => wM (xBuildS (bs1Y ⟨5, 5, 6, 0⟩ wk)) ?_
  have hB := hBb.trans (kk.touch.below.mono hBb.size)
  have hBl := bAlloc hB (.cells (cyvs [⟨5, 5, 6, 0⟩]).toArray 54)
  refine kX (psent_any (some ⟨wk.heap.size, 0, none⟩) 1 [⟨5, 5, 6, 0⟩] (by decide) _ ((cys_new wk [⟨5, 5, 6, 0⟩] 54).more (by simp))) fun e wl ⟨A', c', he, _, _, _, hbl⟩ => ⟨_, he, qE [] (Many.begin wl) fun wm km => coRet <| eoIr (.bool true) ⟨rfl, bOn (hBl.trans (hbl.mono hBl.size)) km⟩⟩
theorem mk_run (j : Nat) (w : Wd) : mkW (runW j (mkW w)).1 = mkW (runW j w).1 ∧ (runW j (mkW w)).2 = (runW j w).2 := by
  have s : SimW (mkW w) w := ⟨rfl, sameM_mkS w.m, rfl⟩
  obtain ⟨h1, h2⟩ := runW_sim j s
  refine ⟨?_, h2⟩
  show (⟨_, _, _⟩ : Wd) = ⟨_, _, _⟩
  rw [h1.g, h1.m.mk, h1.p]
theorem mk_okW {w : Wd} (h : OkW w) : OkW (mkW w) := ⟨h.g, c16_mkS h.m, h.p⟩
theorem mk_len (w : Wd) : (mkW w).m.length ≤ w.m.length := len_mkS w.m
theorem runW_len : ∀ (j : Nat) (w : Wd), (runW j w).1.m.length ≤ w.m.length + 200 * j ∧ (runW j w).1.p.length ≤ w.p.length
  | 0, w => ⟨Nat.le_refl _, Nat.le_refl _⟩
  | j + 1, w => by
    have ih := runW_len j (pstepW w 0 0)
    have h1 : (pstepW w 0 0).m.length ≤ w.m.length + 200 := stepX_mlen w 0 0
    have h2 : (pstepW w 0 0).p.length ≤ w.p.length := stepX_plen w 0 0
    exact ⟨Nat.le_trans ih.1 (by omega), Nat.le_trans ih.2 h2⟩
theorem nRun_nat {n : Int} (h0 : 0 ≤ n) (h : n ≤ 200) : ((nRun n : Nat) : Int) = n := by unfold nRun minI; split <;> omega
theorem few_len {w : Wd} (hf : fewS w = true) : w.m.length ≤ 80 ∧ w.p.length ≤ 40 := by
  have : decide ((w.m.length : Int) ≤ 80) = true ∧ decide ((w.p.length : Int) ≤ 40) = true := by simpa [fewS] using hf
  have h1 := of_decide_eq_true this.1
  have h2 := of_decide_eq_true this.2
  omega
section
open Go.ChangeShapes Go.WideShapes Go.ChangeAt Go.RowKit Go.Deep
theorem list20 {α : Type} (l : List α) (h : l.length = 20) : ∃ a0 a1 a2 a3 a4 a5 a6 a7 a8 a9 a10 a11 a12 a13 a14 a15 a16 a17 a18 a19, l = [a0, a1, a2, a3, a4, a5, a6, a7, a8, a9, a10, a11, a12, a13, a14, a15, a16, a17, a18, a19] := by
  match l, h with
  | [a0, a1, a2, a3, a4, a5, a6, a7, a8, a9, a10, a11, a12, a13, a14, a15, a16, a17, a18, a19], _ => exact ⟨a0, a1, a2, a3, a4, a5, a6, a7, a8, a9, a10, a11, a12, a13, a14, a15, a16, a17, a18, a19, rfl⟩
theorem open_regs1 {H : Type} {enc : TypeId × Value → H} {P : Program} {w : World} {base : Nat} {sp : Nat → Bool} {held : Bool} {t : TypeId} {f0 f1 f2 f3 f4 f5 f6 f7 f8 f9 f10 f11 f12 f13 f14 f15 f16 f17 f18 f19 : Field} {l : List Value} {fuel : Nat} {x : DataW H × List MemPlace}
    (hs : P.underlying t = some (.struct #[f0, f1, f2, f3, f4, f5, f6, f7, f8, f9, f10, f11, f12, f13, f14, f15, f16, f17, f18, f19])) (hone : oneCellFields P #[f0, f1, f2, f3, f4, f5, f6, f7, f8, f9, f10, f11, f12, f13, f14, f15, f16, f17, f18, f19] = true) (hC : P.cellsOf t = 20)
    (u0 : P.underlying f0.type = some (.int .u16)) (u1 : P.underlying f1.type = some (.int .u16)) (u2 : P.underlying f2.type = some (.int .u16)) (u3 : P.underlying f3.type = some (.int .u16)) (u4 : P.underlying f4.type = some (.int .u16)) (u5 : P.underlying f5.type = some (.int .u16)) (u6 : P.underlying f6.type = some (.int .u16)) (u7 : P.underlying f7.type = some (.int .u16)) (u8 : P.underlying f8.type = some (.int .u16)) (u9 : P.underlying f9.type = some (.int .u16)) (u10 : P.underlying f10.type = some (.int .u16)) (u11 : P.underlying f11.type = some (.int .u16)) (u12 : P.underlying f12.type = some (.int .u16)) (u13 : P.underlying f13.type = some (.int .u8)) (u14 : P.underlying f14.type = some (.int .u8)) (u15 : P.underlying f15.type = some .bool) (u16 : P.underlying f16.type = some .bool) (u17 : P.underlying f17.type = some .bool) (u18 : P.underlying f18.type = some .bool) (u19 : P.underlying f19.type = some (.int .i64))
    (hf : DataW.trod enc P w base sp held fuel t l = some x) : ∃ g : Rg, l = (regsC g).toList ∧ RgB g := by
  obtain ⟨xs, n, -, -, hsz, hlen, hg⟩ := DataW.trod_struct hs hf
  rw [hC] at hsz
  have hlen : xs.length = 20 := hlen
  have cell : ∀ (k : Nat) (f : Field), #[f0, f1, f2, f3, f4, f5, f6, f7, f8, f9, f10, f11, f12, f13, f14, f15, f16, f17, f18, f19][k]? = some f → ∃ u z, l[k]? = some u ∧ DataW.trod enc P w base sp held n f.type [u] = some z := by
    intro k f hk
    obtain ⟨ho, h1⟩ := hone_of hone k f hk
    have hkl : k < 20 := (Array.getElem?_eq_some_iff.1 hk).1
    have h2 := hg k f hk
    rw [ho, h1] at h2
    have e1 : (l.drop k).take 1 = [l[k]'(by omega)] := by
      rw [List.drop_eq_getElem_cons (by omega)]
      rfl
    rw [e1, List.getElem?_eq_getElem (by omega)] at h2
    exact ⟨_, _, List.getElem?_eq_getElem (by omega), h2⟩
  have one : ∀ (k : Nat) (f : Field) (K : IntKind), #[f0, f1, f2, f3, f4, f5, f6, f7, f8, f9, f10, f11, f12, f13, f14, f15, f16, f17, f18, f19][k]? = some f → P.underlying f.type = some (.int K) → ∃ z, l[k]? = some (.int K z) ∧ (Lit.int K z).wf = true := by
    intro k f K hk hu
    obtain ⟨u, z, hc, h2⟩ := cell k f hk
    obtain ⟨z, e2, -, hw⟩ := DataW.trod_int hu h2
    injection e2 with e3
    exact ⟨z, by rw [hc, e3], hw⟩
  have oneB : ∀ (k : Nat) (f : Field), #[f0, f1, f2, f3, f4, f5, f6, f7, f8, f9, f10, f11, f12, f13, f14, f15, f16, f17, f18, f19][k]? = some f → P.underlying f.type = some .bool → ∃ z, l[k]? = some (.bool z) := by
    intro k f hk hu
    obtain ⟨u, z, hc, h2⟩ := cell k f hk
    obtain ⟨z, e2, -⟩ := DataW.trod_bool hu h2
    injection e2 with e3
    exact ⟨z, by rw [hc, e3]⟩
  clear hg hlen hf hone
  obtain ⟨z0, e0, w0⟩ := one 0 f0 .u16 rfl u0
  have b0 := bounds_u16 w0
  obtain ⟨z1, e1, w1⟩ := one 1 f1 .u16 rfl u1
  have b1 := bounds_u16 w1
  obtain ⟨z2, e2, w2⟩ := one 2 f2 .u16 rfl u2
  have b2 := bounds_u16 w2
  obtain ⟨z3, e3, w3⟩ := one 3 f3 .u16 rfl u3
  have b3 := bounds_u16 w3
  obtain ⟨z4, e4, w4⟩ := one 4 f4 .u16 rfl u4
  have b4 := bounds_u16 w4
  obtain ⟨z5, e5, w5⟩ := one 5 f5 .u16 rfl u5
  have b5 := bounds_u16 w5
  obtain ⟨z6, e6, w6⟩ := one 6 f6 .u16 rfl u6
  have b6 := bounds_u16 w6
  obtain ⟨z7, e7, w7⟩ := one 7 f7 .u16 rfl u7
  have b7 := bounds_u16 w7
  obtain ⟨z8, e8, w8⟩ := one 8 f8 .u16 rfl u8
  have b8 := bounds_u16 w8
  obtain ⟨z9, e9, w9⟩ := one 9 f9 .u16 rfl u9
  have b9 := bounds_u16 w9
  obtain ⟨z10, e10, w10⟩ := one 10 f10 .u16 rfl u10
  have b10 := bounds_u16 w10
  obtain ⟨z11, e11, w11⟩ := one 11 f11 .u16 rfl u11
  have b11 := bounds_u16 w11
  obtain ⟨z12, e12, w12⟩ := one 12 f12 .u16 rfl u12
  have b12 := bounds_u16 w12
  obtain ⟨z13, e13, w13⟩ := one 13 f13 .u8 rfl u13
  have b13 := bounds_u8 w13
  obtain ⟨z14, e14, w14⟩ := one 14 f14 .u8 rfl u14
  have b14 := bounds_u8 w14
  obtain ⟨z15, e15⟩ := oneB 15 f15 rfl u15
  obtain ⟨z16, e16⟩ := oneB 16 f16 rfl u16
  obtain ⟨z17, e17⟩ := oneB 17 f17 rfl u17
  obtain ⟨z18, e18⟩ := oneB 18 f18 rfl u18
  obtain ⟨z19, e19, w19⟩ := one 19 f19 .i64 rfl u19
  have b19 := bounds_i64 w19
  clear one oneB cell
  refine ⟨⟨z0, z1, z2, z3, z4, z5, z6, z7, z8, z9, z10, z11, z12, z13, z14, z15, z16, z17, z18, z19⟩, ?_, ⟨b0, b1, b2, b3, b4, b5, b6, b7, b8, b9, b10, b11, b12, b13, b14, b19⟩⟩
  obtain ⟨a0, a1, a2, a3, a4, a5, a6, a7, a8, a9, a10, a11, a12, a13, a14, a15, a16, a17, a18, a19, rfl⟩ := list20 l hsz
  simp only [List.getElem?_cons_zero, List.getElem?_cons_succ, Option.some.injEq] at e0 e1 e2 e3 e4 e5 e6 e7 e8 e9 e10 e11 e12 e13 e14 e15 e16 e17 e18 e19
  rw [e0, e1, e2, e3, e4, e5, e6, e7, e8, e9, e10, e11, e12, e13, e14, e15, e16, e17, e18, e19]
end
section
open Go.ChangeShapes Go.WideShapes Go.ChangeAt Go.RowKit Go.Deep
theorem open_cells1 {H : Type} {enc : TypeId × Value → H} {P : Program} {w : World} {base : Nat} {sp : Nat → Bool} {held : Bool} {t e : TypeId} {f0 f1 : Field} {u : Value} {fuel : Nat} {x : DataW H × List MemPlace}
    (ht : P.underlying t = some (.slice e)) (he : P.underlying e = some (.struct #[f0, f1])) (hone : oneCellFields P #[f0, f1] = true) (ce : P.cellsOf e = 2)
    (u0 : P.underlying f0.type = some (.int .u16)) (u1 : P.underlying f1.type = some (.int .u8)) (hf : DataW.trod enc P w base sp held fuel t [u] = some x) :
    ∃ (A : Option Addr) (cap : Nat) (xs : List (Int × Int)), u = .slice A xs.length cap ∧ xs.length ≤ cap ∧ cap ≤ maxLen ∧ Cells16 xs ∧ CellsIn w w.heap.size A xs ∧ (A = none → cap = 0) := by
  obtain ⟨o0, c0⟩ := hone_of hone 0 f0 rfl
  obtain ⟨o1, c1⟩ := hone_of hone 1 f1 rfl
  rcases open_slice_pairs ht he ce o0 o1 c0 c1 hf with ⟨e1, -⟩ | ⟨ad, len', cap', m, n, V0, V1, D0, D1, P0, P1, e1, hb, hle, hm, hmm, -, hx⟩
  · have e2 : u = .slice none 0 0 := by simpa using e1
    exact ⟨none, 0, [], e2, Nat.le_refl _, Nat.zero_le _, fun x hx => by simp at hx, CellsIn.nil _ _ _, fun _ => rfl⟩
  · have e2 : u = .slice (some ad) len' cap' := by simpa using e1
    have hlm : len' ≤ m := by rw [hmm]; split <;> omega
    have each : ∀ i, i < m → ∃ q : Int × Int, V0 i = .int .u16 q.1 ∧ V1 i = .int .u8 q.2 ∧ 0 ≤ q.1 ∧ q.1 ≤ 65535 ∧ 0 ≤ q.2 ∧ q.2 ≤ 255 := by
      intro i hi
      obtain ⟨-, -, h0, h1⟩ := hx i hi
      obtain ⟨z0, g0, -, w0⟩ := DataW.trod_int u0 h0
      obtain ⟨z1, g1, -, w1⟩ := DataW.trod_int u1 h1
      have b0 := bounds_u16 w0
      have b1 := bounds_u8 w1
      simp at g0 g1
      exact ⟨(z0, z1), g0, g1, by omega, by omega, by omega, by omega⟩
    obtain ⟨q, hq⟩ := choose_lt each
    refine ⟨some ad, cap', (List.range len').map q, by rw [List.length_map, List.length_range]; exact e2, by simpa using hle, hm, fun c hc => ?_, fun j c hc => ?_, fun h => by cases h⟩
    · obtain ⟨i, hi, rfl⟩ := List.mem_map.1 hc
      have := hq i (Nat.lt_of_lt_of_le (List.mem_range.1 hi) hlm)
      exact this.2.2
    · have hj : j < len' := by
        have := (List.getElem?_eq_some_iff.1 hc).1
        simpa using this
      have hcq : c = q j := by
        rw [List.getElem?_map, List.getElem?_range hj] at hc
        exact (Option.some.inj hc).symm
      obtain ⟨h0, h1, -⟩ := hx j (by omega)
      obtain ⟨g0, g1, -⟩ := hq j (by omega)
      rw [g0] at h0
      rw [g1] at h1
      rw [hcq]
      refine ⟨ad, rfl, ?_, h0, by rw [add_twice]; exact h1⟩
      have := World.block_lt_of_cell? _ _ h0
      rw [add_block] at this
      exact this
end
section
open Go.ChangeShapes Go.WideShapes Go.ChangeAt Go.RowKit
theorem open_bytes1 {H : Type} {enc : TypeId × Value → H} {P : Program} {w : World} {base : Nat} {sp : Nat → Bool} {held : Bool} {t e : TypeId} {u : Value} {fuel : Nat} {x : DataW H × List MemPlace}
    (ht : P.underlying t = some (.slice e)) (he : P.underlying e = some (.int .u8)) (hc : P.cellsOf e = 1) (hf : DataW.trod enc P w base sp held fuel t [u] = some x) :
    ∃ (A : Option Addr) (cap : Nat) (xs : List Int), u = .slice A xs.length cap ∧ xs.length ≤ cap ∧ cap ≤ maxLen ∧ Bytes8 xs ∧ BytesIn w w.heap.size A xs ∧ (A = none → cap = 0) := by
  rcases open_ints ht he hc hf with ⟨e1, -⟩ | ⟨ad, len', cap', zs, e1, hb, hle, hm, hz, -, hcell, hwf⟩
  · have e2 : u = .slice none 0 0 := by simpa using e1
    refine ⟨none, 0, [], e2, Nat.le_refl _, Nat.zero_le _, fun x hx => by simp at hx, BytesIn.nil _ _ _, fun _ => rfl⟩
  · have e2 : u = .slice (some ad) len' cap' := by simpa using e1
    have hzl : len' ≤ zs.length := by rw [hz]; split <;> omega
    have htl : (zs.take len').length = len' := by rw [List.length_take]; omega
    refine ⟨some ad, cap', zs.take len', by rw [htl]; exact e2, by omega, hm, fun x hx => ?_, fun j x hx => ?_, fun h => by cases h⟩
    · have hw := hwf x (List.mem_of_mem_take hx)
      have := bounds_u8 hw
      exact ⟨by omega, by omega⟩
    · rw [List.getElem?_take] at hx
      split at hx
      · rename_i hj
        have hj2 : j < zs.length := by omega
        have hce := hcell j hj2
        rw [List.getD_eq_getElem?_getD, hx] at hce
        refine ⟨ad, rfl, ?_, hce⟩
        have := World.block_lt_of_cell? _ _ hce
        rw [add_block] at this
        exact this
      · cases hx
end
section
open Go.ChangeShapes Go.WideShapes Go.ChangeAt Go.RowKit Go.Deep
theorem open_world {H : Type} {enc : TypeId × Value → H} {P : Program} {w : World} {r : Reach} {b0 base : Nat} {sp : Nat → Bool} {held : Bool} {t ec eb : TypeId} {q0 q1 q2 g0 g1 f0 f1 f2 f3 f4 f5 f6 f7 f8 f9 f10 f11 f12 f13 f14 f15 f16 f17 f18 f19 : Field} {v : Value} {d : DataW H} {ps : List MemPlace}
    (hs : P.underlying t = some (.struct #[q0, q1, q2])) (hq : (P.cellsOf t, q0.offset, q1.offset, q2.offset, P.cellsOf q0.type, P.cellsOf q1.type, P.cellsOf q2.type) = (22, 0, 20, 21, 20, 1, 1))
    (hr : P.underlying q0.type = some (.struct #[f0, f1, f2, f3, f4, f5, f6, f7, f8, f9, f10, f11, f12, f13, f14, f15, f16, f17, f18, f19])) (hone : oneCellFields P #[f0, f1, f2, f3, f4, f5, f6, f7, f8, f9, f10, f11, f12, f13, f14, f15, f16, f17, f18, f19] = true)
    (u0 : P.underlying f0.type = some (.int .u16)) (u1 : P.underlying f1.type = some (.int .u16)) (u2 : P.underlying f2.type = some (.int .u16)) (u3 : P.underlying f3.type = some (.int .u16)) (u4 : P.underlying f4.type = some (.int .u16)) (u5 : P.underlying f5.type = some (.int .u16)) (u6 : P.underlying f6.type = some (.int .u16)) (u7 : P.underlying f7.type = some (.int .u16)) (u8 : P.underlying f8.type = some (.int .u16)) (u9 : P.underlying f9.type = some (.int .u16)) (u10 : P.underlying f10.type = some (.int .u16)) (u11 : P.underlying f11.type = some (.int .u16)) (u12 : P.underlying f12.type = some (.int .u16)) (u13 : P.underlying f13.type = some (.int .u8)) (u14 : P.underlying f14.type = some (.int .u8)) (u15 : P.underlying f15.type = some .bool) (u16 : P.underlying f16.type = some .bool) (u17 : P.underlying f17.type = some .bool) (u18 : P.underlying f18.type = some .bool) (u19 : P.underlying f19.type = some (.int .i64))
    (hc : P.underlying q1.type = some (.slice ec)) (he : P.underlying ec = some (.struct #[g0, g1])) (honec : oneCellFields P #[g0, g1] = true) (ce : P.cellsOf ec = 2) (v0 : P.underlying g0.type = some (.int .u16)) (v1 : P.underlying g1.type = some (.int .u8))
    (hb : P.underlying q2.type = some (.slice eb)) (heb : P.underlying eb = some (.int .u8)) (cb : P.cellsOf eb = 1)
    (hv : Value.okWide P w r b0 t v) (h : DataW.Trod enc P w base sp held t v d ps) :
    ∃ (g : Rg) (A : Option Addr) (cap : Nat) (xs : List (Int × Int)) (A' : Option Addr) (cap' : Nat) (ys : List Int), v = worldV g (.slice A xs.length cap) (.slice A' ys.length cap') ∧ RgB g ∧ (xs.length ≤ cap ∧ cap ≤ maxLen ∧ Cells16 xs ∧ CellsIn w w.heap.size A xs ∧ (A = none → cap = 0)) ∧ (ys.length ≤ cap' ∧ cap' ≤ maxLen ∧ Bytes8 ys ∧ BytesIn w w.heap.size A' ys ∧ (A' = none → cap' = 0)) := by
  simp only [Prod.mk.injEq] at hq
  obtain ⟨hC, o0, o1, o2, c0, c1, c2⟩ := hq
  obtain ⟨cs, rfl, hsz⟩ := okWide_struct hs hv
  obtain ⟨fuel, hf⟩ := h
  obtain ⟨xs, n, -, -, hl, hlen, hg⟩ := DataW.trod_struct hs hf
  rw [hC] at hsz hl
  have hlen : xs.length = 3 := hlen
  obtain ⟨l, hcs⟩ : ∃ l, l = cs.toList := ⟨_, rfl⟩
  have hcl : (Value.agg cs).cells.toList = l := by rw [hcs]; rfl
  rw [hcl] at hg hl
  have t0 := hg 0 q0 rfl
  have t1 := hg 1 q1 rfl
  have t2 := hg 2 q2 rfl
  rw [o0, c0, List.getElem?_eq_getElem (by omega)] at t0
  rw [o1, c1, List.getElem?_eq_getElem (by omega), show (l.drop 20).take 1 = [l[20]'(by omega)] by rw [List.drop_eq_getElem_cons (by omega)]; rfl] at t1
  rw [o2, c2, List.getElem?_eq_getElem (by omega), show (l.drop 21).take 1 = [l[21]'(by omega)] by rw [List.drop_eq_getElem_cons (by omega)]; rfl] at t2
  obtain ⟨g, e0, hgB⟩ := open_regs1 hr hone c0 u0 u1 u2 u3 u4 u5 u6 u7 u8 u9 u10 u11 u12 u13 u14 u15 u16 u17 u18 u19 t0
  obtain ⟨A, cap, ms, e1, hm⟩ := open_cells1 hc he honec ce v0 v1 t1
  obtain ⟨A', cap', ys, e2, hy⟩ := open_bytes1 hb heb cb t2
  refine ⟨g, A, cap, ms, A', cap', ys, ?_, hgB, hm, hy⟩
  have e3 : l = l.take 20 ++ [l[20]'(by omega), l[21]'(by omega)] := by
    conv => lhs; rw [← List.take_append_drop 20 l]
    rw [List.drop_eq_getElem_cons (by omega), List.drop_eq_getElem_cons (by omega), List.drop_of_length_le (by omega)]
  have e4 : l.take 20 = (regsC g).toList := by simpa using e0
  rw [e4, e1, e2] at e3
  show Value.agg cs = .agg _
  rw [← Array.toArray_toList (xs := cs), ← hcs, e3]
  rfl
end
end Go.Proofs.YtkgaeamdhhceiaaGreatDoor
