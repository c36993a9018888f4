/- The law's walk and what it wants (several texts in one). -/
import Derived.Test.YtoifkefonejeiaaDoorCyG6
namespace Go.Proofs.YtoifkefonejeiaaDoor
open Go.RowKit
set_option linter.unusedVariables false
set_option linter.unusedSimpArgs false
set_option maxRecDepth 20000
set_option maxHeartbeats 20000000
theorem cycleTakes_walk (c : Cy) (A : Option Addr) (cap : Nat) (ws : List Bool) (ha : 0 ≤ c.addr ∧ c.addr ≤ 65535) (hd : B8 c.data) (hct : -9223372036854775808 ≤ c.t ∧ c.t ≤ 9223372036854775807) (w : World)
    (hl : ws.length ≤ cap) (hm : cap ≤ maxLen) (hb : ValsIn w w.heap.size A (blv ws)) (hn : A = none → cap = 0) (hS : Samps w) :
    Calls Tryd.prog 4 #[cyV c, .slice A ws.length cap] w fun e w' => e = .returned (.bool true) ∧ Below w.heap.size w w' := by
  go_enter Tryd.func4, Tryd.ntmps4
  refine coStart <| qQ [] (Many.begin w) fun w1 k1 => coR <| qC (awakeY_any w1 (hS.below k1.touch.below)) k1 fun w2 k2 => qE [] k2 fun w3 k3 => coS <| qQ [] k3 fun w4 k4 => coF <| coSkip <| eoT <| coS <| qQ [] k4 fun w5 k5 => coI (decide ((ws.length : Int) > 100)) (fun h1 => qQ [] k5 fun w6 k6 => coRet <| eoTr <| eoIr (.bool true) ⟨rfl, k6.touch.below⟩) fun h1 => coSkip <| eoT ?_
  have h100 : ws.length ≤ 100 := by
    have : ¬ (ws.length : Int) > 100 := by simpa using h1
    omega
  have hV : ∀ {w'}, Below w.heap.size w w' → ValsIn w' w'.heap.size A (blv ws) := fun h => (hb.below h).more h.size
  refine coR <| qR 2 [0] k5 fun w6 k6 => qC (ctake_any c ws A cap h100 w6 (hS.below k6.touch.below) (hV k6.touch.below)) k6 fun w7 k7 => qE [] k7 fun w8 k8 => coR <| qR 2 [0] k8 fun w9 k9 => qC (rtakeY_any c ws A cap h100 w9 (hV k9.touch.below)) k9 fun wa ka => qE [] ka fun wb kb => ?_
  refine qP 17 kb fun wc kc => qM [0, 1] kc <| qT 2 kc (fun w' _ => xBin (egI _ _ _ _ _ _) (beqI (nSt c ws : Nat) _)) <| qM [3, 4, 5] kc <| qT 6 kc (fun w' _ => xBin (egI _ _ _ _ _ _) (beqI (mSt c ws : Nat) _)) <| qM [7, 8] kc <| qD 0 [9, 10, 12, 13] kc <| poOne 11 (soC (cnames_any c ws A cap h100 wc (hS.below kc.touch.below) (hV kc.touch.below)) fun e wd ⟨A1, he, hst1, hbd⟩ => ⟨_, he, kc.below hbd, ?_⟩)
  have kd := kc.below hbd
  refine poOne 14 (soC (rnamesY_any c ws A cap h100 wd (hV kd.touch.below)) fun e we ⟨A2, c2, he, hst2, hbe⟩ => ⟨_, he, kd.below hbe, ?_⟩)
  have ke := kd.below hbe
  have hN := nSt_le c ws
  have c5 := rsameS_any A1 A2 (nSt c ws) c2 (namesL c ws (nSt c ws)) (by rw [names_len]; omega) we (hst1.on hbe) hst2
  rw [names_len] at c5
  exact qDc 15 c5 ke fun wf kf => qM [16] kf <| poE <| qE [] kf fun wg kg => coRet <| eoIr (.bool true) ⟨rfl, kg.touch.below⟩
end Go.Proofs.YtoifkefonejeiaaDoor
