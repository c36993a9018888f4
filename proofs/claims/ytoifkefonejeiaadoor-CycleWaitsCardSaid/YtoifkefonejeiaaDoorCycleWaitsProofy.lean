/- The law's walk and what it wants (several texts in one). -/
import Derived.Test.YtoifkefonejeiaaDoorCyG6
namespace Go.Proofs.YtoifkefonejeiaaDoor
open Go.RowKit
set_option linter.unusedVariables false
set_option linter.unusedSimpArgs false
set_option maxRecDepth 20000
set_option maxHeartbeats 20000000
structure CwX where
  j : Nat
  y : Nat → Value
def cwB (h : Nat) (A : Option Addr) (n cap N M s : Nat) (x : CwX) : List Value := [x.y 0, .slice A n cap, pT h 0, x.y 3, x.y 4, x.y 5, .int .i64 (N : Int), .int .i64 (M : Int), .int .i64 (s : Int), .int .i64 (x.j : Int), x.y 10, x.y 11, x.y 12, x.y 13, x.y 14, x.y 15, x.y 16, x.y 17, x.y 18, x.y 19, x.y 20, x.y 21, x.y 22, x.y 23, x.y 24, x.y 25, x.y 26, x.y 27, x.y 28, x.y 29, x.y 30, x.y 31, x.y 32, x.y 33, x.y 34, x.y 35, x.y 36, x.y 37, x.y 38, x.y 39, x.y 40, x.y 41, x.y 42, x.y 43, x.y 44, x.y 45, x.y 46, x.y 47, x.y 48, x.y 49, x.y 50, x.y 51, x.y 52, x.y 53, x.y 54, x.y 55, x.y 56, x.y 57, x.y 58, x.y 59, x.y 60, x.y 61, x.y 62, x.y 63, x.y 64, x.y 65, x.y 66, x.y 67, x.y 68, x.y 69, x.y 70, x.y 71, x.y 72, x.y 73, x.y 74, x.y 75, x.y 76, x.y 77, x.y 78, x.y 79, x.y 80, x.y 81, x.y 82, x.y 83, x.y 84, x.y 85, x.y 86, x.y 87, x.y 88, x.y 89, x.y 90, x.y 91, x.y 92, x.y 93, x.y 94]
theorem held_here {s j : Nat} {ws : List Bool} (hs : s ≠ 0) (hj : j ≤ heldN s ws) (h : wt ws (s - 1 + j) = false) : j = heldN s ws := by
  rcases Nat.lt_or_ge j (heldN s ws) with e | e
  · rw [held_on hs e] at h
    cases h
  · omega
theorem cycleWaits_walk (c : Cy) (A : Option Addr) (cap : Nat) (ws : List Bool) (ha : 0 ≤ c.addr ∧ c.addr ≤ 65535) (hd : B8 c.data) (hct : -9223372036854775808 ≤ c.t ∧ c.t ≤ 9223372036854775807) (w : World)
    (hl : ws.length ≤ cap) (hm : cap ≤ maxLen) (hb : ValsIn w w.heap.size A (blv ws)) (hn : A = none → cap = 0) (hS : Samps w) :
    Calls Tryd.prog 5 #[cyV c, .slice A ws.length cap] w fun e w' => e = .returned (.bool true) ∧ Below w.heap.size w w' := by
  go_enter Tryd.func5, Tryd.ntmps5
  refine coStart <| qQ [] (Many.begin w) fun w1 k1 => coR <| qC (awakeY_any w1 (hS.below k1.touch.below)) k1 fun w2 k2 => qE [] k2 fun w3 k3 => coS <| qQ [] k3 fun w4 k4 => coF <| coSkip <| eoT <| coS <| qQ [] k4 fun w5 k5 => coI (decide ((ws.length : Int) > 100)) (fun h1 => qQ [] k5 fun w6 k6 => coRet <| eoTr <| eoIr (.bool true) ⟨rfl, k6.touch.below⟩) fun h1 => coSkip <| eoT ?_
  have h100 : ws.length ≤ 100 := by
    have : ¬ (ws.length : Int) > 100 := by simpa using h1
    omega
  have hV : ∀ {w'}, Below w.heap.size w w' → ValsIn w' w'.heap.size A (blv ws) := fun h => (hb.below h).more h.size
  have hs4 := samp_le c.kind
  have hh := held_le (sampN c.kind) ws
  refine coR <| qR 2 [0] k5 fun w6 k6 => qC (ctake_any c ws A cap h100 w6 (hS.below k6.touch.below) (hV k6.touch.below)) k6 fun w7 k7 => qE [] k7 fun w8 k8 => coS <| coR <| qR 1 [0] k8 fun w9 k9 => qC (rcheckY_any c w9) k9 fun wa ka => qR 1 [] ka fun wb kb => tell 24 (errC_ne c) <| qE [] kb fun wc kc => ?_
  cases hok : okCy c with
  | false =>
    have e1 : nSt c ws = 0 := if_neg (by rw [hok]; simp)
    have e2 : mSt c ws = 0 := if_neg (by rw [hok]; simp)
    rw [e1, e2]
    have c3 := fun W h h2 => cnames_any c ws A cap h100 W h h2
    rw [e1] at c3
    exact coT <| coR <| qR 9 [0] kc fun wd kd => kX (c3 wd (hS.below kd.touch.below) (hV kd.touch.below)) fun e we ⟨A1, he, _, hbe⟩ => ⟨_, he, qE [] (kd.below hbe) fun wf kf => coRet <| eoTr <| eoIr (.bool true) ⟨rfl, kf.touch.below⟩⟩
  | true =>
    have hk := (okCy_iff c).1 hok
    have eN : ((nSt c ws : Nat) : Int) = c.t + (heldN (sampN c.kind) ws : Nat) := by
      unfold nSt
      rw [if_pos hok]
      omega
    refine coF <| coSkip <| eoT <| coR <| qR 2 [0] kc fun wd kd => qC (rsampleY_any c.kind wd) kd fun we ke => qE [] ke fun wf kf => qQ [] kf fun wg kg => ?_
    refine coCut (cwB w.heap.size A ws.length cap (nSt c ws) (mSt c ws) (sampN c.kind)) (fun q w' => q.j = heldN (sampN c.kind) ws ∧ Many w [] [⟨w.heap.size, 24, (cyC c).toList.map some⟩] w') ?_ ?_
    · refine coB <| coLoop (cwB w.heap.size A ws.length cap (nSt c ws) (mSt c ws) (sampN c.kind)) (fun q w' => q.j ≤ heldN (sampN c.kind) ws ∧ Many w [] [⟨w.heap.size, 24, (cyC c).toList.map some⟩] w') (fun q => heldN (sampN c.kind) ws - q.j) (fun y => ⟨0, y⟩) ⟨Nat.zero_le _, kg.take 1 _⟩ ?_
      rintro ⟨j, y⟩ wi ⟨hj, ki⟩
      have hj : j ≤ heldN (sampN c.kind) ws := hj
      have hz : sampN c.kind = 0 → heldN (sampN c.kind) ws = 0 := fun e => by rw [e]; rfl
      have low := ki.touch.below
      refine coS <| coR <| qR 2 [] ki fun wj kj => ?_
      by_cases hs : sampN c.kind = 0
      · exact tell 42 (show decide ((sampN c.kind : Int) > 0) = false from decide_eq_false (by omega)) <| qE [] kj fun wk kk => coF <| coX <| eoTx <| eoTx <| eoBx <| eoCut (fun y => ⟨j, y⟩) ⟨by show j = _; have := hz hs; omega, kk.take 1 _⟩
      have hsub : ∀ w, (binOp .sub 3 (.int .i64 (sampN c.kind : Nat)) (.int .i64 1)).run Tryd.prog w = .ok (.int .i64 ((sampN c.kind - 1 : Nat) : Int)) w := fun w => by
        rw [show ((sampN c.kind - 1 : Nat) : Int) = (sampN c.kind : Int) - 1 by omega]
        exact bSubI _ _ (by omega) (by omega) w
      have hadd : ∀ w, (binOp .add 3 (.int .i64 ((sampN c.kind - 1 : Nat) : Int)) (.int .i64 (j : Int))).run Tryd.prog w = .ok (.int .i64 ((sampN c.kind - 1 + j : Nat) : Int)) w := fun w => by
        rw [show ((sampN c.kind - 1 + j : Nat) : Int) = ((sampN c.kind - 1 : Nat) : Int) + (j : Int) by omega]
        exact bAddC _ _ (by omega) (by omega) w
      refine tell 42 (show decide ((sampN c.kind : Int) > 0) = true from decide_eq_true (by omega)) <| qR 2 [] kj fun wk kk => kBj 45 (.int .i64 (sampN c.kind : Nat)) (.int .i64 1) (.int .i64 ((sampN c.kind - 1 : Nat) : Int)) (egI _ _ _ _ _) hsub <| qR 1 [] kk fun wl kl => kBj 47 (.int .i64 ((sampN c.kind - 1 : Nat) : Int)) (.int .i64 (j : Int)) (.int .i64 ((sampN c.kind - 1 + j : Nat) : Int)) (egI _ _ _ _ _) hadd <| qR 3 [] kl fun wm km => ?_
      rcases Nat.lt_or_ge (sampN c.kind - 1 + j) ws.length with h1 | h1
      · obtain ⟨p, rfl⟩ := hb.atB h1
        have hwt : wt ws (sampN c.kind - 1 + j) = ws[sampN c.kind - 1 + j] := by unfold wt; rw [List.getD_eq_getElem?_getD, List.getElem?_eq_getElem h1]; rfl
        refine tell 50 (show decide (((sampN c.kind - 1 + j : Nat) : Int) < (ws.length : Int)) = true from decide_eq_true (by omega)) <| qR 4 [] km fun wn kn => kBj 55 (.int .i64 (sampN c.kind : Nat)) (.int .i64 1) (.int .i64 ((sampN c.kind - 1 : Nat) : Int)) (egI _ _ _ _ _) hsub <| qR 1 [] kn fun wo ko => kBj 57 (.int .i64 ((sampN c.kind - 1 : Nat) : Int)) (.int .i64 (j : Int)) (.int .i64 ((sampN c.kind - 1 + j : Nat) : Int)) (egI _ _ _ _ _) hadd <| wM (xIndex (ixBool p ws.length cap (sampN c.kind - 1 + j) h1 _)) <| wM (xLoad ((hb.below ko.touch.below).ldB h1)) <| qE [] ko fun wp kp => coI ws[sampN c.kind - 1 + j] (fun ht => ?_) fun hf => ?_
        · have hlt : j < heldN (sampN c.kind) ws := by
            rcases Nat.lt_or_ge j (heldN (sampN c.kind) ws) with e | e
            · exact e
            · have e : j = heldN (sampN c.kind) ws := by omega
              have := held_off ws hs
              rw [← e, hwt, ht] at this
              cases this
          exact coSkip <| eoT <| coB <| coZ <| qR 1 [] kp fun wq kq => wM (xInc j (by omega)) <| qF [] kq fun wr kr => eoB <| eoRound (fun y => ⟨j + 1, y⟩) ⟨hlt, kr.take 1 _⟩ (by show heldN (sampN c.kind) ws - (j + 1) < heldN (sampN c.kind) ws - j; omega)
        · exact coX <| eoTx <| eoTx <| eoBx <| eoCut (fun y => ⟨j, y⟩) ⟨held_here hs hj (hwt.trans hf), kp.take 1 _⟩
      · have hwt : wt ws (sampN c.kind - 1 + j) = false := by unfold wt; rw [List.getD_eq_getElem?_getD, List.getElem?_eq_none h1]; rfl
        exact tell 50 (show decide (((sampN c.kind - 1 + j : Nat) : Int) < (ws.length : Int)) = false from decide_eq_false (by omega)) <| qE [] km fun wp kp => coF <| coX <| eoTx <| eoTx <| eoBx <| eoCut (fun y => ⟨j, y⟩) ⟨held_here hs hj hwt, kp.take 1 _⟩
    · clear k1 k2 k3 k4 k5 k6 k7 k8 k9 ka kb kc kd ke kf kg
      rintro ⟨j, y⟩ wi ⟨hj, ki⟩
      have hj : j = heldN (sampN c.kind) ws := hj
      have hz : sampN c.kind = 0 → heldN (sampN c.kind) ws = 0 := fun e => by rw [e]; rfl
      have hN := nSt_le c ws
      refine coS <| coR <| qR 2 [] ki fun wj kj => ?_
      by_cases hs : sampN c.kind = 0
      · have eM : mSt c ws = 0 := if_neg fun h => h.2 hs
        have h0 := hz hs
        exact tell 64 (show ((sampN c.kind : Int) == 0) = true by simpa using hs) <| qE [] kj fun wk kk => coT <| coR <| qR 4 [0] kk fun wl kl => tell 68 (show ((nSt c ws : Int) == c.t) = true by simp; omega) <| qR 3 [] kl fun wm km => tell 71 (show ((mSt c ws : Int) == 0) = true by simp; omega) <| qE [] km fun wn kn => coRet <| eoTr <| eoIr (.bool true) ⟨rfl, kn.touch.below⟩
      · have eM : mSt c ws = sampN c.kind + heldN (sampN c.kind) ws + 1 := if_pos ⟨hok, hs⟩
        have c3 := fun W h h2 => cnames_any c ws A cap h100 W h h2
        refine tell 64 (show ((sampN c.kind : Int) == 0) = false by simpa using hs) <| qE [] kj fun wk kk => coF <| coSkip <| eoT <| coR <| qR 4 [0] kk fun wl kl => kBj 77 (.int .i64 c.t) (.int .i64 (j : Int)) (.int .i64 (nSt c ws : Nat)) (egI _ _ _ _ _) (fun w => by rw [eN, ← hj]; exact bAddC _ _ (by omega) (by omega) w) <| qR 1 [] kl fun wm km => tell 78 (show ((nSt c ws : Int) == (nSt c ws : Int)) = true by simp) <| qR 4 [] km fun wn kn => kBj 83 (.int .i64 (sampN c.kind : Nat)) (.int .i64 (j : Int)) (.int .i64 ((sampN c.kind + j : Nat) : Int)) (egI _ _ _ _ _) (fun w => by rw [show ((sampN c.kind + j : Nat) : Int) = (sampN c.kind : Int) + (j : Int) by omega]; exact bAddC _ _ (by omega) (by omega) w) <| kBj 84 (.int .i64 ((sampN c.kind + j : Nat) : Int)) (.int .i64 1) (.int .i64 (mSt c ws : Nat)) (egI _ _ _ _ _) (fun w => by rw [eM, ← hj, show ((sampN c.kind + j + 1 : Nat) : Int) = ((sampN c.kind + j : Nat) : Int) + 1 by omega]; exact bAddC _ _ (by omega) (by omega) w) <| qR 1 [] kn fun wo ko => tell 85 (show ((mSt c ws : Int) == (mSt c ws : Int)) = true by simp) <| qR 4 [0] ko fun wp kp => kX (c3 wp (hS.below kp.touch.below) (hV kp.touch.below)) fun e wq ⟨A1, he, _, hbe⟩ => ⟨_, he, qR 3 [] (kp.below hbe) fun wr kr => tell 93 (show ((nSt c ws : Int) == (nSt c ws : Int)) = true by simp) <| qE [] kr fun wt' kt => coRet <| eoIr (.bool true) ⟨rfl, kt.touch.below⟩⟩
end Go.Proofs.YtoifkefonejeiaaDoor
