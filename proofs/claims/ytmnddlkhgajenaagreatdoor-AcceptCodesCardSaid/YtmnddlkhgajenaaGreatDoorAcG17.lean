/- Contracts and facts that the claim's proof wants (several texts in one). -/
import Derived.Test.YtmnddlkhgajenaaGreatDoorAcG9
import Derived.Test.YtmnddlkhgajenaaGreatDoorAcG16
namespace Go.Proofs.YtmnddlkhgajenaaGreatDoor
open Go.RowKit
set_option linter.unusedVariables false
set_option linter.unusedSimpArgs false
set_option maxRecDepth 20000
set_option maxHeartbeats 20000000
theorem nlow_same (r : Rg) (plane x y z p q : Int) (code : Int) (hz : 0 ≤ z ∧ z ≤ 7) (hy : 0 ≤ y ∧ y ≤ 7) (hp : p = y / 2) (hq : q = y % 2) (hn : nearM plane code = false) (h6 : z = 4 ∨ z = 5 ∨ z = 6 → y = 6 → plane = 0) :
    (variousN ⟨r, plane, x, y, z, p, q, r.hl, false⟩).Rel RR (lowW y z p q ⟨r, plane, code, 0, false⟩) := by
  have hz' : z = 0 ∨ z = 1 ∨ z = 2 ∨ z = 3 ∨ z = 4 ∨ z = 5 ∨ z = 6 ∨ z = 7 := by omega
  have hy' : y = 0 ∨ y = 1 ∨ y = 2 ∨ y = 3 ∨ y = 4 ∨ y = 5 ∨ y = 6 ∨ y = 7 := by omega
  have hq' : q = 0 ∨ q = 1 := by omega
  unfold variousN lowW
  rcases hz' with rfl | rfl | rfl | rfl | rfl | rfl | rfl | rfl
  · rcases hy' with rfl | rfl | rfl | rfl | rfl | rfl | rfl | rfl <;> simp [branchN, hopsW, jumpByN, hopW, Ms.left, Ms.lessB, Ws.left, Ws.less, getG, setG, pairG, setPairG] <;> simp only [Tr.bind, Tr.Rel, RR, askN, readN, writeN, inN, outN, pauseN, Ms.pc, Ms.sp, Ms.wz, Ms.af, Ms.pcUp, glanceN, fetchN, numberN, wordN, wordAtN, Ms.spDown, pushN, popN, Ms.goTo, Ms.a, Ms.f, Ms.setA, Ms.setF, Ms.hl, Ms.setHL, Ms.pair, Ms.setPair, Ms.holds, cycW, statesW, readW, writeW, Ws.pc, Ws.sp, Ws.wz, Ws.hlTo, Ws.af, Ws.tick, Ws.pcUp, Ws.a, Ws.f, fetchW, numberW, wordW, Ws.spDown, Ws.spUp, pushW, popW, Ws.hl, Ws.setHl, Ws.setP, Ws.setP0, Ws.know, Ws.mTo] <;> simp
    all_goals (intros; split <;> simp only [Tr.bind, Tr.Rel, RR, askN, readN, writeN, inN, outN, pauseN, Ms.pc, Ms.sp, Ms.wz, Ms.af, Ms.pcUp, glanceN, fetchN, numberN, wordN, wordAtN, Ms.spDown, pushN, popN, Ms.goTo, Ms.a, Ms.f, Ms.setA, Ms.setF, Ms.hl, Ms.setHL, Ms.pair, Ms.setPair, Ms.holds, cycW, statesW, readW, writeW, Ws.pc, Ws.sp, Ws.wz, Ws.hlTo, Ws.af, Ws.tick, Ws.pcUp, Ws.a, Ws.f, fetchW, numberW, wordW, Ws.spDown, Ws.spUp, pushW, popW, Ws.hl, Ws.setHl, Ws.setP, Ws.setP0, Ws.know, Ws.mTo] <;> simp)
  · rcases hq' with h | h <;> rw [h] <;> simp [wholePairN] <;> simp only [Tr.bind, Tr.Rel, RR, askN, readN, writeN, inN, outN, pauseN, Ms.pc, Ms.sp, Ms.wz, Ms.af, Ms.pcUp, glanceN, fetchN, numberN, wordN, wordAtN, Ms.spDown, pushN, popN, Ms.goTo, Ms.a, Ms.f, Ms.setA, Ms.setF, Ms.hl, Ms.setHL, Ms.pair, Ms.setPair, Ms.holds, cycW, statesW, readW, writeW, Ws.pc, Ws.sp, Ws.wz, Ws.hlTo, Ws.af, Ws.tick, Ws.pcUp, Ws.a, Ws.f, fetchW, numberW, wordW, Ws.spDown, Ws.spUp, pushW, popW, Ws.hl, Ws.setHl, Ws.setP, Ws.setP0, Ws.know, Ws.mTo] <;> simp [pairG, setPairG]
    all_goals (repeat' split) <;> first | rfl | simp_all
  · rcases hy' with rfl | rfl | rfl | rfl | rfl | rfl | rfl | rfl <;> subst hp <;> simp [throughPlaceN, storesW, storeAN, storeAW, loadAN, loadAW, storeWordN, loadWordN, trailA] <;> simp only [Tr.bind, Tr.Rel, RR, askN, readN, writeN, inN, outN, pauseN, Ms.pc, Ms.sp, Ms.wz, Ms.af, Ms.pcUp, glanceN, fetchN, numberN, wordN, wordAtN, Ms.spDown, pushN, popN, Ms.goTo, Ms.a, Ms.f, Ms.setA, Ms.setF, Ms.hl, Ms.setHL, Ms.pair, Ms.setPair, Ms.holds, cycW, statesW, readW, writeW, Ws.pc, Ws.sp, Ws.wz, Ws.hlTo, Ws.af, Ws.tick, Ws.pcUp, Ws.a, Ws.f, fetchW, numberW, wordW, Ws.spDown, Ws.spUp, pushW, popW, Ws.hl, Ws.setHl, Ws.setP, Ws.setP0, Ws.know, Ws.mTo] <;> simp [pairG, setPairG]
    all_goals (intros; repeat' split) <;> first | rfl | simp_all
  · rcases hq' with h | h <;> rw [h] <;> simp [stepPairN] <;> repeat (first | simp only [Tr.bind, Tr.Rel, RR, askN, readN, writeN, inN, outN, pauseN, Ms.pc, Ms.sp, Ms.wz, Ms.af, Ms.pcUp, glanceN, fetchN, numberN, wordN, wordAtN, Ms.spDown, pushN, popN, Ms.goTo, Ms.a, Ms.f, Ms.setA, Ms.setF, Ms.hl, Ms.setHL, Ms.pair, Ms.setPair, Ms.holds, cycW, statesW, readW, writeW, Ws.pc, Ws.sp, Ws.wz, Ws.hlTo, Ws.af, Ws.tick, Ws.pcUp, Ws.a, Ws.f, fetchW, numberW, wordW, Ws.spDown, Ws.spUp, pushW, popW, Ws.hl, Ws.setHl, Ws.setP, Ws.setP0, Ws.know, Ws.mTo] | simp)
  · by_cases h : y = 6
    · have hpl := h6 (by omega) h
      subst h; subst hpl; simp [countN, stepW, getN, putN, getW, setW, whereW]; repeat (first | simp only [Tr.bind, Tr.Rel, RR, askN, readN, writeN, inN, outN, pauseN, Ms.pc, Ms.sp, Ms.wz, Ms.af, Ms.pcUp, glanceN, fetchN, numberN, wordN, wordAtN, Ms.spDown, pushN, popN, Ms.goTo, Ms.a, Ms.f, Ms.setA, Ms.setF, Ms.hl, Ms.setHL, Ms.pair, Ms.setPair, Ms.holds, cycW, statesW, readW, writeW, Ws.pc, Ws.sp, Ws.wz, Ws.hlTo, Ws.af, Ws.tick, Ws.pcUp, Ws.a, Ws.f, fetchW, numberW, wordW, Ws.spDown, Ws.spUp, pushW, popW, Ws.hl, Ws.setHl, Ws.setP, Ws.setP0, Ws.know, Ws.mTo] | simp)
    · simp [countN, stepW, getN, putN, getW, setW, throughW, hn, h]; repeat (first | simp only [Tr.bind, Tr.Rel, RR, askN, readN, writeN, inN, outN, pauseN, Ms.pc, Ms.sp, Ms.wz, Ms.af, Ms.pcUp, glanceN, fetchN, numberN, wordN, wordAtN, Ms.spDown, pushN, popN, Ms.goTo, Ms.a, Ms.f, Ms.setA, Ms.setF, Ms.hl, Ms.setHL, Ms.pair, Ms.setPair, Ms.holds, cycW, statesW, readW, writeW, Ws.pc, Ws.sp, Ws.wz, Ws.hlTo, Ws.af, Ws.tick, Ws.pcUp, Ws.a, Ws.f, fetchW, numberW, wordW, Ws.spDown, Ws.spUp, pushW, popW, Ws.hl, Ws.setHl, Ws.setP, Ws.setP0, Ws.know, Ws.mTo] | simp [hn, h])
  · by_cases h : y = 6
    · have hpl := h6 (by omega) h
      subst h; subst hpl; simp [countN, stepW, getN, putN, getW, setW, whereW]; repeat (first | simp only [Tr.bind, Tr.Rel, RR, askN, readN, writeN, inN, outN, pauseN, Ms.pc, Ms.sp, Ms.wz, Ms.af, Ms.pcUp, glanceN, fetchN, numberN, wordN, wordAtN, Ms.spDown, pushN, popN, Ms.goTo, Ms.a, Ms.f, Ms.setA, Ms.setF, Ms.hl, Ms.setHL, Ms.pair, Ms.setPair, Ms.holds, cycW, statesW, readW, writeW, Ws.pc, Ws.sp, Ws.wz, Ws.hlTo, Ws.af, Ws.tick, Ws.pcUp, Ws.a, Ws.f, fetchW, numberW, wordW, Ws.spDown, Ws.spUp, pushW, popW, Ws.hl, Ws.setHl, Ws.setP, Ws.setP0, Ws.know, Ws.mTo] | simp)
    · simp [countN, stepW, getN, putN, getW, setW, throughW, hn, h]; repeat (first | simp only [Tr.bind, Tr.Rel, RR, askN, readN, writeN, inN, outN, pauseN, Ms.pc, Ms.sp, Ms.wz, Ms.af, Ms.pcUp, glanceN, fetchN, numberN, wordN, wordAtN, Ms.spDown, pushN, popN, Ms.goTo, Ms.a, Ms.f, Ms.setA, Ms.setF, Ms.hl, Ms.setHL, Ms.pair, Ms.setPair, Ms.holds, cycW, statesW, readW, writeW, Ws.pc, Ws.sp, Ws.wz, Ws.hlTo, Ws.af, Ws.tick, Ws.pcUp, Ws.a, Ws.f, fetchW, numberW, wordW, Ws.spDown, Ws.spUp, pushW, popW, Ws.hl, Ws.setHl, Ws.setP, Ws.setP0, Ws.know, Ws.mTo] | simp [hn, h])
  · by_cases h : y = 6
    · have hpl := h6 (by omega) h
      subst h; subst hpl; simp [loadNumberN, putN, setW, whereW]; repeat (first | simp only [Tr.bind, Tr.Rel, RR, askN, readN, writeN, inN, outN, pauseN, Ms.pc, Ms.sp, Ms.wz, Ms.af, Ms.pcUp, glanceN, fetchN, numberN, wordN, wordAtN, Ms.spDown, pushN, popN, Ms.goTo, Ms.a, Ms.f, Ms.setA, Ms.setF, Ms.hl, Ms.setHL, Ms.pair, Ms.setPair, Ms.holds, cycW, statesW, readW, writeW, Ws.pc, Ws.sp, Ws.wz, Ws.hlTo, Ws.af, Ws.tick, Ws.pcUp, Ws.a, Ws.f, fetchW, numberW, wordW, Ws.spDown, Ws.spUp, pushW, popW, Ws.hl, Ws.setHl, Ws.setP, Ws.setP0, Ws.know, Ws.mTo] | simp)
    · simp [loadNumberN, putN, setW, throughW, hn, h]; repeat (first | simp only [Tr.bind, Tr.Rel, RR, askN, readN, writeN, inN, outN, pauseN, Ms.pc, Ms.sp, Ms.wz, Ms.af, Ms.pcUp, glanceN, fetchN, numberN, wordN, wordAtN, Ms.spDown, pushN, popN, Ms.goTo, Ms.a, Ms.f, Ms.setA, Ms.setF, Ms.hl, Ms.setHL, Ms.pair, Ms.setPair, Ms.holds, cycW, statesW, readW, writeW, Ws.pc, Ws.sp, Ws.wz, Ws.hlTo, Ws.af, Ws.tick, Ws.pcUp, Ws.a, Ws.f, fetchW, numberW, wordW, Ws.spDown, Ws.spUp, pushW, popW, Ws.hl, Ws.setHl, Ws.setP, Ws.setP0, Ws.know, Ws.mTo] | simp [hn, h])
  · unfold adjustN turnW
    simp
    repeat' split
    all_goals first | rfl | exact trivial | simp_all
theorem load_same (r : Rg) (plane y z p q : Int) (code : Int) (hn : nearM plane code = false) (hh : ¬ (y = 6 ∧ z = 6)) (h6 : y = 6 ∨ z = 6 → plane = 0) :
    (loadN ⟨r, plane, 1, y, z, p, q, r.hl, false⟩).Rel RR ((getW z ⟨r, plane, code, 0, false⟩).bind fun b => setW y b.1 b.2) := by
  by_cases hy : y = 6
  · have hpl := h6 (.inl hy)
    subst hy; subst hpl
    have hz : z ≠ 6 := fun h => hh ⟨rfl, h⟩
    simp [loadN, hz, getN, putN, getW, setW, whereW, throughW, hn]; repeat (first | simp only [Tr.bind, Tr.Rel, RR, askN, readN, writeN, inN, outN, pauseN, Ms.pc, Ms.sp, Ms.wz, Ms.af, Ms.pcUp, glanceN, fetchN, numberN, wordN, wordAtN, Ms.spDown, pushN, popN, Ms.goTo, Ms.a, Ms.f, Ms.setA, Ms.setF, Ms.hl, Ms.setHL, Ms.pair, Ms.setPair, Ms.holds, cycW, statesW, readW, writeW, Ws.pc, Ws.sp, Ws.wz, Ws.hlTo, Ws.af, Ws.tick, Ws.pcUp, Ws.a, Ws.f, fetchW, numberW, wordW, Ws.spDown, Ws.spUp, pushW, popW, Ws.hl, Ws.setHl, Ws.setP, Ws.setP0, Ws.know, Ws.mTo] | simp [hn])
  · by_cases hz : z = 6
    · have hpl := h6 (.inr hz)
      subst hz; subst hpl
      simp [loadN, hy, getN, putN, getW, setW, whereW, throughW, hn]; repeat (first | simp only [Tr.bind, Tr.Rel, RR, askN, readN, writeN, inN, outN, pauseN, Ms.pc, Ms.sp, Ms.wz, Ms.af, Ms.pcUp, glanceN, fetchN, numberN, wordN, wordAtN, Ms.spDown, pushN, popN, Ms.goTo, Ms.a, Ms.f, Ms.setA, Ms.setF, Ms.hl, Ms.setHL, Ms.pair, Ms.setPair, Ms.holds, cycW, statesW, readW, writeW, Ws.pc, Ws.sp, Ws.wz, Ws.hlTo, Ws.af, Ws.tick, Ws.pcUp, Ws.a, Ws.f, fetchW, numberW, wordW, Ws.spDown, Ws.spUp, pushW, popW, Ws.hl, Ws.setHl, Ws.setP, Ws.setP0, Ws.know, Ws.mTo] | simp [hn])
    · simp [loadN, hy, hz, getN, putN, getW, setW, whereW, throughW, hn]; repeat (first | simp only [Tr.bind, Tr.Rel, RR, askN, readN, writeN, inN, outN, pauseN, Ms.pc, Ms.sp, Ms.wz, Ms.af, Ms.pcUp, glanceN, fetchN, numberN, wordN, wordAtN, Ms.spDown, pushN, popN, Ms.goTo, Ms.a, Ms.f, Ms.setA, Ms.setF, Ms.hl, Ms.setHL, Ms.pair, Ms.setPair, Ms.holds, cycW, statesW, readW, writeW, Ws.pc, Ws.sp, Ws.wz, Ws.hlTo, Ws.af, Ws.tick, Ws.pcUp, Ws.a, Ws.f, fetchW, numberW, wordW, Ws.spDown, Ws.spUp, pushW, popW, Ws.hl, Ws.setHl, Ws.setP, Ws.setP0, Ws.know, Ws.mTo] | simp [hn])
theorem reckon_same (r : Rg) (plane y z p q : Int) (code : Int) (hn : nearM plane code = false) (hy : 0 ≤ y ∧ y ≤ 7) (h6 : z = 6 → plane = 0) :
    (reckonN ⟨r, plane, 2, y, z, p, q, r.hl, false⟩).Rel RR ((getW z ⟨r, plane, code, 0, false⟩).bind fun b => .done (sumW y b.1 b.2)) := by
  by_cases hz : z = 6
  · have hpl := h6 hz
    subst hz; subst hpl
    simp [reckonN, getN, getW, whereW]; repeat (first | simp only [Tr.bind, Tr.Rel, RR, askN, readN, writeN, inN, outN, pauseN, Ms.pc, Ms.sp, Ms.wz, Ms.af, Ms.pcUp, glanceN, fetchN, numberN, wordN, wordAtN, Ms.spDown, pushN, popN, Ms.goTo, Ms.a, Ms.f, Ms.setA, Ms.setF, Ms.hl, Ms.setHL, Ms.pair, Ms.setPair, Ms.holds, cycW, statesW, readW, writeW, Ws.pc, Ws.sp, Ws.wz, Ws.hlTo, Ws.af, Ws.tick, Ws.pcUp, Ws.a, Ws.f, fetchW, numberW, wordW, Ws.spDown, Ws.spUp, pushW, popW, Ws.hl, Ws.setHl, Ws.setP, Ws.setP0, Ws.know, Ws.mTo] | simp [hn])
    intro b hb; exact arith_sum _ _ _ _ _ _ _ _ _ _ _ _ _ hy
  · simp [reckonN, hz, getN, getW, throughW, hn]; repeat (first | simp only [Tr.bind, Tr.Rel, RR, askN, readN, writeN, inN, outN, pauseN, Ms.pc, Ms.sp, Ms.wz, Ms.af, Ms.pcUp, glanceN, fetchN, numberN, wordN, wordAtN, Ms.spDown, pushN, popN, Ms.goTo, Ms.a, Ms.f, Ms.setA, Ms.setF, Ms.hl, Ms.setHL, Ms.pair, Ms.setPair, Ms.holds, cycW, statesW, readW, writeW, Ws.pc, Ws.sp, Ws.wz, Ws.hlTo, Ws.af, Ws.tick, Ws.pcUp, Ws.a, Ws.f, fetchW, numberW, wordW, Ws.spDown, Ws.spUp, pushW, popW, Ws.hl, Ws.setHl, Ws.setP, Ws.setP0, Ws.know, Ws.mTo] | simp [hn])
    exact arith_sum _ _ _ _ _ _ _ _ _ _ _ _ _ hy
theorem arith_sum2 (r : Rg) (plane x y z p q spot : Int) (near : Bool) (pl2 code m : Int) (known : Bool) (b : Int) (hy : 0 ≤ y ∧ y ≤ 7) : (arithN b ⟨r, plane, x, y, z, p, q, spot, near⟩).r = (sumW y b ⟨r, pl2, code, m, known⟩).r := by
  have hc : ∀ t : Bool, ((one t) != 0) = t := by intro t; cases t <;> rfl
  unfold arithN sumW
  dsimp only [Ms.carry, Ms.f, Ms.a, Ws.a, Ws.f, Ms.af, Ws.af]
  simp only [hc]
  repeat' split
  all_goals first | rfl | omega
theorem near3 {plane c : Int} (h : nearM plane c = true) (hp : plane = 0 ∨ plane = 3 ∨ plane = 4) : (plane = 3 ∨ plane = 4) ∧ pointsM c = true := by
  unfold nearM at h
  by_cases hq : plane = 3 ∨ plane = 4
  · rw [if_pos hq] at h; exact ⟨hq, h⟩
  · rw [if_neg hq] at h
    rcases hp with rfl | rfl | rfl <;> simp [aheadM] at h hq
theorem far_points {plane c : Int} (h : nearM plane c = false) (hq : plane = 3 ∨ plane = 4) : pointsM c = false := by
  unfold nearM at h
  rwa [if_pos hq] at h
theorem near_same (s : Ms) (c : Int) (hs : MsB s) (hnr : s.near = false) (hc : B8 c) (h : nearM s.plane c = true) :
    ((aloneHead c s.atHL).bind quarterN).Rel RR (plainW s.plane c ⟨s.r, 0, 0, 0, false⟩) := by
  obtain ⟨r, plane, x0, y0, z0, p0, q0, spot, near⟩ := s
  obtain ⟨hp34, hpt⟩ := near3 h hs.plane
  have hx' : fx c = 0 ∨ fx c = 1 ∨ fx c = 2 ∨ fx c = 3 := by unfold fx; have := hc.1; have := hc.2; omega
  have hz' : 0 ≤ fz c ∧ fz c ≤ 7 := by unfold fz; omega
  have hy' : 0 ≤ fy c ∧ fy c ≤ 7 := by unfold fy; omega
  simp only at hp34
  have hg : ∀ (g : Rg) (y : Int), getG g 0 y = getG g 0 y := fun _ _ => rfl
  unfold pointsM at hpt
  unfold aloneHead plainW
  rcases hx' with hx | hx | hx | hx <;> simp only [hx] at hpt ⊢ <;> simp at hpt
  · obtain ⟨hy, hz⟩ := hpt
    have hz3 : fz c = 4 ∨ fz c = 5 ∨ fz c = 6 := by omega
    rcases hz3 with hz | hz | hz <;> rcases hp34 with rfl | rfl <;>
      simp [Ms.atHL, Ms.split, Ws.at_, hx, hy, hz, h, aimN, lowW, stepW, getW, setW, whereW, quarterN, variousN, countN, loadNumberN, getN, putN] <;> repeat (first | simp only [Tr.bind, Tr.Rel, RR, askN, readN, writeN, inN, outN, pauseN, Ms.pc, Ms.sp, Ms.wz, Ms.af, Ms.pcUp, glanceN, fetchN, numberN, wordN, wordAtN, Ms.spDown, pushN, popN, Ms.goTo, Ms.a, Ms.f, Ms.setA, Ms.setF, Ms.hl, Ms.setHL, Ms.pair, Ms.setPair, Ms.holds, cycW, statesW, readW, writeW, Ws.pc, Ws.sp, Ws.wz, Ws.hlTo, Ws.af, Ws.tick, Ws.pcUp, Ws.a, Ws.f, fetchW, numberW, wordW, Ws.spDown, Ws.spUp, pushW, popW, Ws.hl, Ws.setHl, Ws.setP, Ws.setP0, Ws.know, Ws.mTo] | simp [hx, hy, hz, pairG, quarterN, variousN, countN, loadNumberN, getN, putN])
  · rcases hp34 with rfl | rfl <;> by_cases hy : fy c = 6 <;> by_cases hz : fz c = 6 <;> (try simp [hy, hz] at hpt) <;>
      simp [Ms.atHL, Ms.split, Ws.at_, hx, hy, hz, h, aimN, getW, setW, whereW, throughW, quarterN, loadN, getN, putN] <;> repeat (first | simp only [Tr.bind, Tr.Rel, RR, askN, readN, writeN, inN, outN, pauseN, Ms.pc, Ms.sp, Ms.wz, Ms.af, Ms.pcUp, glanceN, fetchN, numberN, wordN, wordAtN, Ms.spDown, pushN, popN, Ms.goTo, Ms.a, Ms.f, Ms.setA, Ms.setF, Ms.hl, Ms.setHL, Ms.pair, Ms.setPair, Ms.holds, cycW, statesW, readW, writeW, Ws.pc, Ws.sp, Ws.wz, Ws.hlTo, Ws.af, Ws.tick, Ws.pcUp, Ws.a, Ws.f, fetchW, numberW, wordW, Ws.spDown, Ws.spUp, pushW, popW, Ws.hl, Ws.setHl, Ws.setP, Ws.setP0, Ws.know, Ws.mTo] | simp [hx, hy, hz, h, pairG, quarterN, loadN, getN, putN])
    all_goals first | (intros; rfl) | exact absurd (by rw [beq_eq_false_iff_ne.2 hy, beq_eq_false_iff_ne.2 hz]) hpt
  · rcases hp34 with rfl | rfl <;> 
      simp [Ms.atHL, Ms.split, Ws.at_, hx, hpt, h, aimN, getW, setW, whereW, throughW, quarterN, reckonN, getN, putN] <;> repeat (first | simp only [Tr.bind, Tr.Rel, RR, askN, readN, writeN, inN, outN, pauseN, Ms.pc, Ms.sp, Ms.wz, Ms.af, Ms.pcUp, glanceN, fetchN, numberN, wordN, wordAtN, Ms.spDown, pushN, popN, Ms.goTo, Ms.a, Ms.f, Ms.setA, Ms.setF, Ms.hl, Ms.setHL, Ms.pair, Ms.setPair, Ms.holds, cycW, statesW, readW, writeW, Ws.pc, Ws.sp, Ws.wz, Ws.hlTo, Ws.af, Ws.tick, Ws.pcUp, Ws.a, Ws.f, fetchW, numberW, wordW, Ws.spDown, Ws.spUp, pushW, popW, Ws.hl, Ws.setHl, Ws.setP, Ws.setP0, Ws.know, Ws.mTo] | simp [hx, hpt, h, pairG, quarterN, reckonN, getN, putN])
    all_goals (intros; exact arith_sum2 _ _ _ _ _ _ _ _ _ _ _ _ _ _ hy')
theorem plain_same (s : Ms) (c : Int) (hs : MsB s) (hnr : s.near = false) (hc : B8 c) :
    ((aloneHead c s.atHL).bind quarterN).Rel RR (plainW s.plane c ⟨s.r, 0, 0, 0, false⟩) := by
  cases h : nearM s.plane c with
  | true => exact near_same s c hs hnr hc h
  | false =>
    obtain ⟨r, plane, x0, y0, z0, p0, q0, spot, near⟩ := s
    have hnr' : near = false := hnr
    subst hnr'
    have hpl : plane = 0 ∨ plane = 3 ∨ plane = 4 := hs.plane
    have h' : nearM plane c = false := h
    have hfar : plane ≠ 0 → pointsM c = false := fun h0 => far_points h' (by omega)
    have hx' : fx c = 0 ∨ fx c = 1 ∨ fx c = 2 ∨ fx c = 3 := by unfold fx; have := hc.1; have := hc.2; omega
    have hz' : 0 ≤ fz c ∧ fz c ≤ 7 := by unfold fz; omega
    have hy' : 0 ≤ fy c ∧ fy c ≤ 7 := by unfold fy; omega
    have hpy : fp c = fy c / 2 := by unfold fp fy; have := hc.1; have := hc.2; omega
    have hqy : fq c = fy c % 2 := by unfold fq fy; have := hc.1; have := hc.2; omega
    have hq' : 0 ≤ fq c ∧ fq c ≤ 1 := by unfold fq; omega
    have hp' : 0 ≤ fp c ∧ fp c ≤ 3 := by unfold fp; omega
    have e : aloneHead c (Ms.atHL ⟨r, plane, x0, y0, z0, p0, q0, spot, false⟩) = .done ⟨r, plane, fx c, fy c, fz c, fp c, fq c, r.hl, false⟩ := by
      unfold aloneHead
      rw [if_neg (by show ¬ nearM plane c = true; rw [h']; simp)]
      rfl
    rw [e, Tr.bind_done]
    unfold quarterN plainW
    show (if fx c = 0 then _ else _ : Tr Ms).Rel RR _
    unfold pointsM at hfar
    rcases hx' with hx | hx | hx | hx <;> simp only [hx] at hfar ⊢
    · exact nlow_same r plane 0 (fy c) (fz c) (fp c) (fq c) c hz' hy' hpy hqy h' (fun h1 h2 => by
        by_cases h0 : plane = 0
        · exact h0
        · have := hfar h0; simp [h2] at this; omega)
    · by_cases hh : fy c = 6 ∧ fz c = 6
      · simp [hh, loadN]; exact rfl
      · simp only [hh]
        exact load_same r plane (fy c) (fz c) (fp c) (fq c) c h' hh (fun h1 => by
          by_cases h0 : plane = 0
          · exact h0
          · have := hfar h0
            rcases h1 with h1 | h1 <;> simp [h1] at this <;> exact absurd ⟨by first | exact h1 | exact this, by first | exact h1 | exact this⟩ hh)
    · exact reckon_same r plane (fy c) (fz c) (fp c) (fq c) c h' hy' (fun h1 => by
        by_cases h0 : plane = 0
        · exact h0
        · have := hfar h0; simp [h1] at this)
    · exact nhigh_same r plane 3 (fy c) (fz c) (fp c) (fq c) r.hl false c 0 false hz' hy' hp' hq'
theorem shown_fin : ∀ b0 b1 b2 b3 c i : Bool, withM (withM (mkM b0 b1 b2 false b3 false false false) 0 c) 2 i = mkM (isM (mkM b0 b1 b2 false b3 false false false) 7) (isM (mkM b0 b1 b2 false b3 false false false) 6) (isM (mkM b0 b1 b2 false b3 false false false) 5) (isM (mkM b0 b1 b2 false b3 false false false) 4) (isM (mkM b0 b1 b2 false b3 false false false) 3) i (isM (mkM b0 b1 b2 false b3 false false false) 1) c := by decide +kernel
theorem shown_eq (b : Int) (c i : Bool) : withM (withM (resultM b) 0 c) 2 i = mkM (isM (resultM b) 7) (isM (resultM b) 6) (isM (resultM b) 5) (isM (resultM b) 4) (isM (resultM b) 3) i (isM (resultM b) 1) c := shown_fin ..
theorem near00 : nearM 0 0 = false := rfl
theorem af_low {a f : Int} (hf : B8 f) : (256 * a + f) % 256 = f := by have := hf.1; have := hf.2; omega
theorem block_same (r : Rg) (x y z p q : Int) (hz : 0 ≤ z ∧ z < 4) (hy : 4 ≤ y ∧ y ≤ 7) (d : Int) :
    (blockSel d ⟨r, 0, x, y, z, p, q, r.hl, false⟩).Rel RR (blockRunW d y z ⟨r, 0, 0, 0, false⟩) := by
  have hz' : z = 0 ∨ z = 1 ∨ z = 2 ∨ z = 3 := by omega
  have hm : ∀ a b bc f, ∀ a2, (256 * a2 + moveF a b bc f) % 256 = moveF a b bc f := fun a b bc f _ => af_low (moveF_byte ..)
  have hf : ∀ a b bc f, ∀ a2, (256 * a2 + findF a b bc f) % 256 = findF a b bc f := fun a b bc f _ => af_low (findF_byte ..)
  have hp : ∀ a b c, ∀ a2, (256 * a2 + passF a b c) % 256 = passF a b c := fun a b c _ => af_low (passF_byte ..)
  have h5 : (5 < y) = (6 ≤ y) := by apply propext; omega
  unfold blockSel blockRunW
  rcases hz' with rfl | rfl | rfl | rfl
  · simp [blockMoveN, tailW]; repeat (first | simp only [Tr.bind, Tr.Rel, RR, askN, readN, writeN, inN, outN, pauseN, Ms.pc, Ms.sp, Ms.wz, Ms.af, Ms.pcUp, glanceN, fetchN, numberN, wordN, wordAtN, Ms.spDown, pushN, popN, Ms.goTo, Ms.a, Ms.f, Ms.setA, Ms.setF, Ms.hl, Ms.setHL, Ms.pair, Ms.setPair, Ms.holds, cycW, statesW, readW, writeW, Ws.pc, Ws.sp, Ws.wz, Ws.hlTo, Ws.af, Ws.tick, Ws.pcUp, Ws.a, Ws.f, fetchW, numberW, wordW, Ws.spDown, Ws.spUp, pushW, popW, Ws.hl, Ws.setHl, Ws.setP, Ws.setP0, Ws.know, Ws.mTo] | simp [Ms.hlBy, Ms.deBy, Ms.bcDown, Ws.hlBy, Ws.deBy, Ws.bcDown, hm, h5])
    intros; split <;> repeat (first | simp only [Tr.bind, Tr.Rel, RR, askN, readN, writeN, inN, outN, pauseN, Ms.pc, Ms.sp, Ms.wz, Ms.af, Ms.pcUp, glanceN, fetchN, numberN, wordN, wordAtN, Ms.spDown, pushN, popN, Ms.goTo, Ms.a, Ms.f, Ms.setA, Ms.setF, Ms.hl, Ms.setHL, Ms.pair, Ms.setPair, Ms.holds, cycW, statesW, readW, writeW, Ws.pc, Ws.sp, Ws.wz, Ws.hlTo, Ws.af, Ws.tick, Ws.pcUp, Ws.a, Ws.f, fetchW, numberW, wordW, Ws.spDown, Ws.spUp, pushW, popW, Ws.hl, Ws.setHl, Ws.setP, Ws.setP0, Ws.know, Ws.mTo] | simp [repeatN])
  · simp [blockFindN, tailW]; repeat (first | simp only [Tr.bind, Tr.Rel, RR, askN, readN, writeN, inN, outN, pauseN, Ms.pc, Ms.sp, Ms.wz, Ms.af, Ms.pcUp, glanceN, fetchN, numberN, wordN, wordAtN, Ms.spDown, pushN, popN, Ms.goTo, Ms.a, Ms.f, Ms.setA, Ms.setF, Ms.hl, Ms.setHL, Ms.pair, Ms.setPair, Ms.holds, cycW, statesW, readW, writeW, Ws.pc, Ws.sp, Ws.wz, Ws.hlTo, Ws.af, Ws.tick, Ws.pcUp, Ws.a, Ws.f, fetchW, numberW, wordW, Ws.spDown, Ws.spUp, pushW, popW, Ws.hl, Ws.setHl, Ws.setP, Ws.setP0, Ws.know, Ws.mTo] | simp [Ms.hlBy, Ms.deBy, Ms.bcDown, Ws.hlBy, Ws.deBy, Ws.bcDown, hf, h5])
    intros; split <;> repeat (first | simp only [Tr.bind, Tr.Rel, RR, askN, readN, writeN, inN, outN, pauseN, Ms.pc, Ms.sp, Ms.wz, Ms.af, Ms.pcUp, glanceN, fetchN, numberN, wordN, wordAtN, Ms.spDown, pushN, popN, Ms.goTo, Ms.a, Ms.f, Ms.setA, Ms.setF, Ms.hl, Ms.setHL, Ms.pair, Ms.setPair, Ms.holds, cycW, statesW, readW, writeW, Ws.pc, Ws.sp, Ws.wz, Ws.hlTo, Ws.af, Ws.tick, Ws.pcUp, Ws.a, Ws.f, fetchW, numberW, wordW, Ws.spDown, Ws.spUp, pushW, popW, Ws.hl, Ws.setHl, Ws.setP, Ws.setP0, Ws.know, Ws.mTo] | simp [repeatN])
  · simp [blockTakeN, tailW]; repeat (first | simp only [Tr.bind, Tr.Rel, RR, askN, readN, writeN, inN, outN, pauseN, Ms.pc, Ms.sp, Ms.wz, Ms.af, Ms.pcUp, glanceN, fetchN, numberN, wordN, wordAtN, Ms.spDown, pushN, popN, Ms.goTo, Ms.a, Ms.f, Ms.setA, Ms.setF, Ms.hl, Ms.setHL, Ms.pair, Ms.setPair, Ms.holds, cycW, statesW, readW, writeW, Ws.pc, Ws.sp, Ws.wz, Ws.hlTo, Ws.af, Ws.tick, Ws.pcUp, Ws.a, Ws.f, fetchW, numberW, wordW, Ws.spDown, Ws.spUp, pushW, popW, Ws.hl, Ws.setHl, Ws.setP, Ws.setP0, Ws.know, Ws.mTo] | simp [Ms.hlBy, Ms.deBy, Ms.bcDown, Ws.hlBy, Ws.deBy, Ws.bcDown, Ms.lessB, Ms.left, Ws.less, Ws.left, getG, setG, pairG, setPairG, hp, h5])
    intros; split <;> repeat (first | simp only [Tr.bind, Tr.Rel, RR, askN, readN, writeN, inN, outN, pauseN, Ms.pc, Ms.sp, Ms.wz, Ms.af, Ms.pcUp, glanceN, fetchN, numberN, wordN, wordAtN, Ms.spDown, pushN, popN, Ms.goTo, Ms.a, Ms.f, Ms.setA, Ms.setF, Ms.hl, Ms.setHL, Ms.pair, Ms.setPair, Ms.holds, cycW, statesW, readW, writeW, Ws.pc, Ws.sp, Ws.wz, Ws.hlTo, Ws.af, Ws.tick, Ws.pcUp, Ws.a, Ws.f, fetchW, numberW, wordW, Ws.spDown, Ws.spUp, pushW, popW, Ws.hl, Ws.setHl, Ws.setP, Ws.setP0, Ws.know, Ws.mTo] | simp [repeatN])
  · simp [blockGiveN, tailW]; repeat (first | simp only [Tr.bind, Tr.Rel, RR, askN, readN, writeN, inN, outN, pauseN, Ms.pc, Ms.sp, Ms.wz, Ms.af, Ms.pcUp, glanceN, fetchN, numberN, wordN, wordAtN, Ms.spDown, pushN, popN, Ms.goTo, Ms.a, Ms.f, Ms.setA, Ms.setF, Ms.hl, Ms.setHL, Ms.pair, Ms.setPair, Ms.holds, cycW, statesW, readW, writeW, Ws.pc, Ws.sp, Ws.wz, Ws.hlTo, Ws.af, Ws.tick, Ws.pcUp, Ws.a, Ws.f, fetchW, numberW, wordW, Ws.spDown, Ws.spUp, pushW, popW, Ws.hl, Ws.setHl, Ws.setP, Ws.setP0, Ws.know, Ws.mTo] | simp [Ms.hlBy, Ms.deBy, Ms.bcDown, Ws.hlBy, Ws.deBy, Ws.bcDown, Ms.lessB, Ms.left, Ws.less, Ws.left, getG, setG, pairG, setPairG, hp, h5])
    intros; split <;> repeat (first | simp only [Tr.bind, Tr.Rel, RR, askN, readN, writeN, inN, outN, pauseN, Ms.pc, Ms.sp, Ms.wz, Ms.af, Ms.pcUp, glanceN, fetchN, numberN, wordN, wordAtN, Ms.spDown, pushN, popN, Ms.goTo, Ms.a, Ms.f, Ms.setA, Ms.setF, Ms.hl, Ms.setHL, Ms.pair, Ms.setPair, Ms.holds, cycW, statesW, readW, writeW, Ws.pc, Ws.sp, Ws.wz, Ws.hlTo, Ws.af, Ws.tick, Ws.pcUp, Ws.a, Ws.f, fetchW, numberW, wordW, Ws.spDown, Ws.spUp, pushW, popW, Ws.hl, Ws.setHl, Ws.setP, Ws.setP0, Ws.know, Ws.mTo] | simp [repeatN])
theorem ed_same (r : Rg) (hr : RgB r) (c : Int) (hc : B8 c) : (quarterE ⟨r, 0, fx c, fy c, fz c, fp c, fq c, r.hl, false⟩).Rel RR (edW c ⟨r, 0, 0, 0, false⟩) := by
  have hx' : fx c = 0 ∨ fx c = 1 ∨ fx c = 2 ∨ fx c = 3 := by unfold fx; have := hc.1; have := hc.2; omega
  have hz' : 0 ≤ fz c ∧ fz c ≤ 7 := by unfold fz; omega
  have hy' : 0 ≤ fy c ∧ fy c ≤ 7 := by unfold fy; omega
  have hqy : fq c = fy c % 2 := by unfold fq fy; have := hc.1; have := hc.2; omega
  unfold quarterE edW
  generalize fx c = x at *
  generalize fy c = y at *
  generalize fz c = z at *
  generalize fp c = p at *
  generalize fq c = q at *
  have hz8 : z = 0 ∨ z = 1 ∨ z = 2 ∨ z = 3 ∨ z = 4 ∨ z = 5 ∨ z = 6 ∨ z = 7 := by omega
  have hy8 : y = 0 ∨ y = 1 ∨ y = 2 ∨ y = 3 ∨ y = 4 ∨ y = 5 ∨ y = 6 ∨ y = 7 := by omega
  have hq' : q = 0 ∨ q = 1 := by omega
  rcases hx' with rfl | rfl | rfl | rfl
  · simp; exact rfl
  · unfold extendedN
    rcases hz8 with rfl | rfl | rfl | rfl | rfl | rfl | rfl | rfl
    · by_cases h : y = 6
      · subst h; simp [takeInN]; repeat (first | simp only [Tr.bind, Tr.Rel, RR, askN, readN, writeN, inN, outN, pauseN, Ms.pc, Ms.sp, Ms.wz, Ms.af, Ms.pcUp, glanceN, fetchN, numberN, wordN, wordAtN, Ms.spDown, pushN, popN, Ms.goTo, Ms.a, Ms.f, Ms.setA, Ms.setF, Ms.hl, Ms.setHL, Ms.pair, Ms.setPair, Ms.holds, cycW, statesW, readW, writeW, Ws.pc, Ws.sp, Ws.wz, Ws.hlTo, Ws.af, Ws.tick, Ws.pcUp, Ws.a, Ws.f, fetchW, numberW, wordW, Ws.spDown, Ws.spUp, pushW, popW, Ws.hl, Ws.setHl, Ws.setP, Ws.setP0, Ws.know, Ws.mTo] | simp)
      · simp [takeInN, h]; repeat (first | simp only [Tr.bind, Tr.Rel, RR, askN, readN, writeN, inN, outN, pauseN, Ms.pc, Ms.sp, Ms.wz, Ms.af, Ms.pcUp, glanceN, fetchN, numberN, wordN, wordAtN, Ms.spDown, pushN, popN, Ms.goTo, Ms.a, Ms.f, Ms.setA, Ms.setF, Ms.hl, Ms.setHL, Ms.pair, Ms.setPair, Ms.holds, cycW, statesW, readW, writeW, Ws.pc, Ws.sp, Ws.wz, Ws.hlTo, Ws.af, Ws.tick, Ws.pcUp, Ws.a, Ws.f, fetchW, numberW, wordW, Ws.spDown, Ws.spUp, pushW, popW, Ws.hl, Ws.setHl, Ws.setP, Ws.setP0, Ws.know, Ws.mTo] | simp [h, putN, setW, throughW, near00])
    · by_cases h : y = 6
      · subst h; simp [giveOutN]; repeat (first | simp only [Tr.bind, Tr.Rel, RR, askN, readN, writeN, inN, outN, pauseN, Ms.pc, Ms.sp, Ms.wz, Ms.af, Ms.pcUp, glanceN, fetchN, numberN, wordN, wordAtN, Ms.spDown, pushN, popN, Ms.goTo, Ms.a, Ms.f, Ms.setA, Ms.setF, Ms.hl, Ms.setHL, Ms.pair, Ms.setPair, Ms.holds, cycW, statesW, readW, writeW, Ws.pc, Ws.sp, Ws.wz, Ws.hlTo, Ws.af, Ws.tick, Ws.pcUp, Ws.a, Ws.f, fetchW, numberW, wordW, Ws.spDown, Ws.spUp, pushW, popW, Ws.hl, Ws.setHl, Ws.setP, Ws.setP0, Ws.know, Ws.mTo] | simp)
      · simp [giveOutN, h]; repeat (first | simp only [Tr.bind, Tr.Rel, RR, askN, readN, writeN, inN, outN, pauseN, Ms.pc, Ms.sp, Ms.wz, Ms.af, Ms.pcUp, glanceN, fetchN, numberN, wordN, wordAtN, Ms.spDown, pushN, popN, Ms.goTo, Ms.a, Ms.f, Ms.setA, Ms.setF, Ms.hl, Ms.setHL, Ms.pair, Ms.setPair, Ms.holds, cycW, statesW, readW, writeW, Ws.pc, Ws.sp, Ws.wz, Ws.hlTo, Ws.af, Ws.tick, Ws.pcUp, Ws.a, Ws.f, fetchW, numberW, wordW, Ws.spDown, Ws.spUp, pushW, popW, Ws.hl, Ws.setHl, Ws.setP, Ws.setP0, Ws.know, Ws.mTo] | simp [h, getN, getW, throughW, near00])
    · rcases hq' with h | h <;> simp [addCarriedN, h] <;> repeat (first | simp only [Tr.bind, Tr.Rel, RR, askN, readN, writeN, inN, outN, pauseN, Ms.pc, Ms.sp, Ms.wz, Ms.af, Ms.pcUp, glanceN, fetchN, numberN, wordN, wordAtN, Ms.spDown, pushN, popN, Ms.goTo, Ms.a, Ms.f, Ms.setA, Ms.setF, Ms.hl, Ms.setHL, Ms.pair, Ms.setPair, Ms.holds, cycW, statesW, readW, writeW, Ws.pc, Ws.sp, Ws.wz, Ws.hlTo, Ws.af, Ws.tick, Ws.pcUp, Ws.a, Ws.f, fetchW, numberW, wordW, Ws.spDown, Ws.spUp, pushW, popW, Ws.hl, Ws.setHl, Ws.setP, Ws.setP0, Ws.know, Ws.mTo] | simp [h])
    · rcases hq' with h | h <;> simp [pairAtPlaceN, wordsW, storeWordN, loadWordN, h] <;> repeat (first | simp only [Tr.bind, Tr.Rel, RR, askN, readN, writeN, inN, outN, pauseN, Ms.pc, Ms.sp, Ms.wz, Ms.af, Ms.pcUp, glanceN, fetchN, numberN, wordN, wordAtN, Ms.spDown, pushN, popN, Ms.goTo, Ms.a, Ms.f, Ms.setA, Ms.setF, Ms.hl, Ms.setHL, Ms.pair, Ms.setPair, Ms.holds, cycW, statesW, readW, writeW, Ws.pc, Ws.sp, Ws.wz, Ws.hlTo, Ws.af, Ws.tick, Ws.pcUp, Ws.a, Ws.f, fetchW, numberW, wordW, Ws.spDown, Ws.spUp, pushW, popW, Ws.hl, Ws.setHl, Ws.setP, Ws.setP0, Ws.know, Ws.mTo] | simp [h])
      all_goals (intros; unfold setPairG; repeat' split) <;> rfl
    · simp; repeat (first | simp only [Tr.bind, Tr.Rel, RR, askN, readN, writeN, inN, outN, pauseN, Ms.pc, Ms.sp, Ms.wz, Ms.af, Ms.pcUp, glanceN, fetchN, numberN, wordN, wordAtN, Ms.spDown, pushN, popN, Ms.goTo, Ms.a, Ms.f, Ms.setA, Ms.setF, Ms.hl, Ms.setHL, Ms.pair, Ms.setPair, Ms.holds, cycW, statesW, readW, writeW, Ws.pc, Ws.sp, Ws.wz, Ws.hlTo, Ws.af, Ws.tick, Ws.pcUp, Ws.a, Ws.f, fetchW, numberW, wordW, Ws.spDown, Ws.spUp, pushW, popW, Ws.hl, Ws.setHl, Ws.setP, Ws.setP0, Ws.know, Ws.mTo] | simp)
    · have m2 : ∀ a : Int, ((a + 1) % 65536 + 1) % 65536 = (a + 2) % 65536 := by intro a; omega
      simp [backW]; repeat (first | simp only [Tr.bind, Tr.Rel, RR, askN, readN, writeN, inN, outN, pauseN, Ms.pc, Ms.sp, Ms.wz, Ms.af, Ms.pcUp, glanceN, fetchN, numberN, wordN, wordAtN, Ms.spDown, pushN, popN, Ms.goTo, Ms.a, Ms.f, Ms.setA, Ms.setF, Ms.hl, Ms.setHL, Ms.pair, Ms.setPair, Ms.holds, cycW, statesW, readW, writeW, Ws.pc, Ws.sp, Ws.wz, Ws.hlTo, Ws.af, Ws.tick, Ws.pcUp, Ws.a, Ws.f, fetchW, numberW, wordW, Ws.spDown, Ws.spUp, pushW, popW, Ws.hl, Ws.setHl, Ws.setP, Ws.setP0, Ws.know, Ws.mTo] | simp [m2])
    · by_cases h2 : y % 4 = 2
      · simp [h2]; exact rfl
      · by_cases h3 : y % 4 = 3
        · simp [h2, h3]; exact rfl
        · simp [h2, h3]; exact rfl
    · rcases hy8 with rfl | rfl | rfl | rfl | rfl | rfl | rfl | rfl <;> simp [specialN, oddW, turnDigitsN] <;> repeat (first | simp only [Tr.bind, Tr.Rel, RR, askN, readN, writeN, inN, outN, pauseN, Ms.pc, Ms.sp, Ms.wz, Ms.af, Ms.pcUp, glanceN, fetchN, numberN, wordN, wordAtN, Ms.spDown, pushN, popN, Ms.goTo, Ms.a, Ms.f, Ms.setA, Ms.setF, Ms.hl, Ms.setHL, Ms.pair, Ms.setPair, Ms.holds, cycW, statesW, readW, writeW, Ws.pc, Ws.sp, Ws.wz, Ws.hlTo, Ws.af, Ws.tick, Ws.pcUp, Ws.a, Ws.f, fetchW, numberW, wordW, Ws.spDown, Ws.spUp, pushW, popW, Ws.hl, Ws.setHl, Ws.setP, Ws.setP0, Ws.know, Ws.mTo] | simp [showN, shownW, shown_eq])
  · by_cases h : z < 4 ∧ 3 < y
    · have h1 : ¬ (4 ≤ z ∨ y < 4) := by omega
      simp only [blocksN, blockW, h, h1]
      rcases hq' with h2 | h2
      · have h3 : ¬ (y % 2 = 1) := by omega
        simp [h2, h3]
        exact block_same r 2 y z p 0 (by omega) (by omega) 1
      · have h3 : y % 2 = 1 := by omega
        simp [h2, h3]
        exact block_same r 2 y z p 1 (by omega) (by omega) (-1)
    · have h1 : 4 ≤ z ∨ y < 4 := by omega
      simp [blocksN, h, h1]
      exact rfl
  · simp; exact rfl
theorem cb_same (r : Rg) (c : Int) (hc : B8 c) : (quarterC ⟨r, 0, fx c, fy c, fz c, fp c, fq c, r.hl, false⟩).Rel RR (bitW false c ⟨r, 0, 0, 0, false⟩) := by
  have hx' : fx c = 0 ∨ fx c = 1 ∨ fx c = 2 ∨ fx c = 3 := by unfold fx; have := hc.1; have := hc.2; omega
  unfold quarterC bitW
  generalize fx c = x at *
  generalize fy c = y at *
  generalize fz c = z at *
  generalize fp c = p at *
  generalize fq c = q at *
  by_cases h : z = 6
  · subst h
    rcases hx' with rfl | rfl | rfl | rfl <;> simp [Ws.at_, getW, whereW, shiftedN, testedN, changedN, operandN, resultN, Ms.inMem, bitopW, bitsetW, setW] <;> repeat (first | simp only [Tr.bind, Tr.Rel, RR, askN, readN, writeN, inN, outN, pauseN, Ms.pc, Ms.sp, Ms.wz, Ms.af, Ms.pcUp, glanceN, fetchN, numberN, wordN, wordAtN, Ms.spDown, pushN, popN, Ms.goTo, Ms.a, Ms.f, Ms.setA, Ms.setF, Ms.hl, Ms.setHL, Ms.pair, Ms.setPair, Ms.holds, cycW, statesW, readW, writeW, Ws.pc, Ws.sp, Ws.wz, Ws.hlTo, Ws.af, Ws.tick, Ws.pcUp, Ws.a, Ws.f, fetchW, numberW, wordW, Ws.spDown, Ws.spUp, pushW, popW, Ws.hl, Ws.setHl, Ws.setP, Ws.setP0, Ws.know, Ws.mTo] | simp)
  · rcases hx' with rfl | rfl | rfl | rfl <;> simp [Ws.at_, getW, whereW, shiftedN, testedN, changedN, operandN, resultN, Ms.inMem, bitopW, bitsetW, setW, h, getN, throughW, near00] <;> repeat (first | simp only [Tr.bind, Tr.Rel, RR, askN, readN, writeN, inN, outN, pauseN, Ms.pc, Ms.sp, Ms.wz, Ms.af, Ms.pcUp, glanceN, fetchN, numberN, wordN, wordAtN, Ms.spDown, pushN, popN, Ms.goTo, Ms.a, Ms.f, Ms.setA, Ms.setF, Ms.hl, Ms.setHL, Ms.pair, Ms.setPair, Ms.holds, cycW, statesW, readW, writeW, Ws.pc, Ws.sp, Ws.wz, Ws.hlTo, Ws.af, Ws.tick, Ws.pcUp, Ws.a, Ws.f, fetchW, numberW, wordW, Ws.spDown, Ws.spUp, pushW, popW, Ws.hl, Ws.setHl, Ws.setP, Ws.setP0, Ws.know, Ws.mTo] | simp [h, putN, throughW, near00])
theorem cb_far (r : Rg) (c spot pl code : Int) (hc : B8 c) : (quarterC ⟨r, 0, fx c, fy c, fz c, fp c, fq c, spot, true⟩).Rel RR (bitW true c ⟨r, pl, code, spot, true⟩) := by
  have hx' : fx c = 0 ∨ fx c = 1 ∨ fx c = 2 ∨ fx c = 3 := by unfold fx; have := hc.1; have := hc.2; omega
  unfold quarterC bitW
  generalize fx c = x at *
  generalize fy c = y at *
  generalize fz c = z at *
  generalize fp c = p at *
  generalize fq c = q at *
  by_cases h : z = 6
  · subst h
    rcases hx' with rfl | rfl | rfl | rfl <;> simp [Ws.at_, getW, whereW, shiftedN, testedN, changedN, operandN, resultN, Ms.inMem, bitopW, bitsetW, setW] <;> repeat (first | simp only [Tr.bind, Tr.Rel, RR, askN, readN, writeN, inN, outN, pauseN, Ms.pc, Ms.sp, Ms.wz, Ms.af, Ms.pcUp, glanceN, fetchN, numberN, wordN, wordAtN, Ms.spDown, pushN, popN, Ms.goTo, Ms.a, Ms.f, Ms.setA, Ms.setF, Ms.hl, Ms.setHL, Ms.pair, Ms.setPair, Ms.holds, cycW, statesW, readW, writeW, Ws.pc, Ws.sp, Ws.wz, Ws.hlTo, Ws.af, Ws.tick, Ws.pcUp, Ws.a, Ws.f, fetchW, numberW, wordW, Ws.spDown, Ws.spUp, pushW, popW, Ws.hl, Ws.setHl, Ws.setP, Ws.setP0, Ws.know, Ws.mTo] | simp)
  · rcases hx' with rfl | rfl | rfl | rfl <;> simp [Ws.at_, getW, whereW, shiftedN, testedN, changedN, operandN, resultN, Ms.inMem, bitopW, bitsetW, setW, h, getN, throughW, near00] <;> repeat (first | simp only [Tr.bind, Tr.Rel, RR, askN, readN, writeN, inN, outN, pauseN, Ms.pc, Ms.sp, Ms.wz, Ms.af, Ms.pcUp, glanceN, fetchN, numberN, wordN, wordAtN, Ms.spDown, pushN, popN, Ms.goTo, Ms.a, Ms.f, Ms.setA, Ms.setF, Ms.hl, Ms.setHL, Ms.pair, Ms.setPair, Ms.holds, cycW, statesW, readW, writeW, Ws.pc, Ws.sp, Ws.wz, Ws.hlTo, Ws.af, Ws.tick, Ws.pcUp, Ws.a, Ws.f, fetchW, numberW, wordW, Ws.spDown, Ws.spUp, pushW, popW, Ws.hl, Ws.setHl, Ws.setP, Ws.setP0, Ws.know, Ws.mTo] | simp [h, putN, throughW, near00])
theorem body_same : BodySame := by
  intro s c hs hnr hc hp
  show (bodyN c s).Rel RR _
  unfold bodyN restW
  by_cases h3 : c = 203
  · subst h3
    rw [if_pos rfl, if_neg (by decide)]
    obtain ⟨r, plane, x0, y0, z0, p0, q0, spot, near⟩ := s
    have hnr' : near = false := hnr
    subst hnr'
    have hpl : plane = 0 ∨ plane = 3 ∨ plane = 4 := hs.plane
    by_cases h0 : plane = 0
    · subst h0
      simp only [codeCBN, Ms.atHL]
      simp only [Tr.bind, Tr.Rel, RR, askN, readN, writeN, inN, outN, pauseN, Ms.pc, Ms.sp, Ms.wz, Ms.af, Ms.pcUp, glanceN, fetchN, numberN, wordN, wordAtN, Ms.spDown, pushN, popN, Ms.goTo, Ms.a, Ms.f, Ms.setA, Ms.setF, Ms.hl, Ms.setHL, Ms.pair, Ms.setPair, Ms.holds, cycW, statesW, readW, writeW, Ws.pc, Ws.sp, Ws.wz, Ws.hlTo, Ws.af, Ws.tick, Ws.pcUp, Ws.a, Ws.f, fetchW, numberW, wordW, Ws.spDown, Ws.spUp, pushW, popW, Ws.hl, Ws.setHl, Ws.setP, Ws.setP0, Ws.know, Ws.mTo]
      simp only [true_and, Ms.split]
      refine ⟨rfl, fun b hb => ?_⟩
      exact cb_same _ b hb
    · have h0' : ¬ ((203 : Int) = 203 ∧ plane = 0) := fun h => h0 h.2
      rw [if_neg h0', if_pos rfl]
      have h34 : plane = 3 ∨ plane = 4 := hpl.resolve_left h0
      rcases h34 with rfl | rfl
      · simp [codeCBN, Ms.atHL, distW, aimN, Ws.at_]
        simp only [Tr.bind, Tr.Rel, RR, askN, readN, writeN, inN, outN, pauseN, Ms.pc, Ms.sp, Ms.wz, Ms.af, Ms.pcUp, glanceN, fetchN, numberN, wordN, wordAtN, Ms.spDown, pushN, popN, Ms.goTo, Ms.a, Ms.f, Ms.setA, Ms.setF, Ms.hl, Ms.setHL, Ms.pair, Ms.setPair, Ms.holds, cycW, statesW, readW, writeW, Ws.pc, Ws.sp, Ws.wz, Ws.hlTo, Ws.af, Ws.tick, Ws.pcUp, Ws.a, Ws.f, fetchW, numberW, wordW, Ws.spDown, Ws.spUp, pushW, popW, Ws.hl, Ws.setHl, Ws.setP, Ws.setP0, Ws.know, Ws.mTo]
        simp [Ms.split, pairG]
        intro b hb c hc _ _
        exact cb_far _ c _ _ _ hc
      · simp [codeCBN, Ms.atHL, distW, aimN, Ws.at_]
        simp only [Tr.bind, Tr.Rel, RR, askN, readN, writeN, inN, outN, pauseN, Ms.pc, Ms.sp, Ms.wz, Ms.af, Ms.pcUp, glanceN, fetchN, numberN, wordN, wordAtN, Ms.spDown, pushN, popN, Ms.goTo, Ms.a, Ms.f, Ms.setA, Ms.setF, Ms.hl, Ms.setHL, Ms.pair, Ms.setPair, Ms.holds, cycW, statesW, readW, writeW, Ws.pc, Ws.sp, Ws.wz, Ws.hlTo, Ws.af, Ws.tick, Ws.pcUp, Ws.a, Ws.f, fetchW, numberW, wordW, Ws.spDown, Ws.spUp, pushW, popW, Ws.hl, Ws.setHl, Ws.setP, Ws.setP0, Ws.know, Ws.mTo]
        simp [Ms.split, pairG]
        intro b hb c hc _ _
        exact cb_far _ c _ _ _ hc
  · by_cases h7 : c = 237
    · subst h7
      rw [if_neg (by decide), if_pos rfl, if_pos rfl]
      obtain ⟨r, plane, x0, y0, z0, p0, q0, spot, near⟩ := s
      have hnr' : near = false := hnr
      subst hnr'
      simp only [Ms.atHL, Ms.toPlane]
      simp only [Tr.bind, Tr.Rel, RR, askN, readN, writeN, inN, outN, pauseN, Ms.pc, Ms.sp, Ms.wz, Ms.af, Ms.pcUp, glanceN, fetchN, numberN, wordN, wordAtN, Ms.spDown, pushN, popN, Ms.goTo, Ms.a, Ms.f, Ms.setA, Ms.setF, Ms.hl, Ms.setHL, Ms.pair, Ms.setPair, Ms.holds, cycW, statesW, readW, writeW, Ws.pc, Ws.sp, Ws.wz, Ws.hlTo, Ws.af, Ws.tick, Ws.pcUp, Ws.a, Ws.f, fetchW, numberW, wordW, Ws.spDown, Ws.spUp, pushW, popW, Ws.hl, Ws.setHl, Ws.setP, Ws.setP0, Ws.know, Ws.mTo]
      simp only [true_and, Ms.split, Ws.at_]
      intro b hb
      refine ed_same _ ?_ b hb
      have ht : RgB (tickG r 1) := hs.r.tick 1
      exact ⟨ht.af, ht.bc, ht.de, ht.hl, ht.af2, ht.bc2, ht.de2, ht.hl2, ht.ix, ht.iy, ht.sp, Wd16.mod _, ht.wz, ht.i, ht.r, ht.mode⟩
    · rw [if_neg h3, if_neg h7, if_neg h7, if_neg (fun h => h3 h.1), if_neg h3]
      exact plain_same s c hs hnr hc
theorem after_tell {g : Rg} (hg : RgB g) {c : Int} (hc : B8 c) {xs : List Int} (hx : Bytes8 xs) : tellV (afterOf g c xs) = tellW (rafterOf g c xs) := (after_same body_same hg hc hx).tell
theorem next_tell {g : Rg} (hg : RgB g) {xs : List Int} (hx : Bytes8 xs) : tellV (nextOf g xs) = tellW (rnextOf g xs) := (next_same body_same hg hx).tell
theorem below_some {n b : Nat} {w W w1 : World} (h : Below n w W) (hg : W.grownBy w1 (some b)) (hb : n ≤ b) (hn : n ≤ W.heap.size) : Below n w w1 := h.grown hg hn fun k e => by cases e; exact hb
theorem below_own {n : Nat} {w W w1 : World} {base : Nat} {e : TypeId} {size : Nat} {v : Value} {m : Nat} {xs : List Value} (h : Below n w W) (hg : W.grownBy w1 v.ownBlock) (ho : W.ownsRow base e size v m xs) (hb : n ≤ base) (hn : n ≤ W.heap.size) : Below n w w1 :=
  h.grown hg hn fun k e => Nat.le_trans hb (ho.lt k e).1
theorem bAlloc {w W : World} (h : Below w.heap.size w W) (o : Obj) : Below w.heap.size w (W.alloc o) := Below.alloc h h.size _
theorem bOn {w W W' : World} {rs : List RowK} (h : Below w.heap.size w W) (k : Many W [] rs W') : Below w.heap.size w W' := h.trans (k.touch.below.mono h.size)
theorem Many.allocO {w0 w : World} {L : List Nat} {rs : List RowK} (h : Many w0 L rs w) (o : Obj) : Many w0 L rs (w.alloc o) := h.below (Below.alloc (Below.refl _ _) (Nat.le_refl _) _)
theorem Many.grown {w0 w w' : World} {L : List Nat} {rs : List RowK} {b : Nat} (h : Many w0 L rs w) (k : w.grownBy w' (some b)) (hb : w0.heap.size ≤ b) (hn : ∀ (i : Nat) (r : RowK), rs[i]? = some r → r.b ≠ b) : Many w0 L rs w' :=
  ⟨fun i r hr => by obtain ⟨full, h1, h2⟩ := h.rows i r hr; exact ⟨full, h1.of (k.block r.b h1.lt (by simpa using hn i r hr)), h2⟩, h.dis, h.own,
    ⟨k.os.trans h.touch.os, k.tape.trans h.touch.tape, k.output.trans h.touch.output, Nat.le_trans h.touch.size k.size, fun c hc hL => (k.block c (Nat.lt_of_lt_of_le hc h.touch.size) (by simp; omega)).trans (h.touch.block c hc hL)⟩⟩
section
variable {P : Program} {ρ : Operand → Value} {o : Oper} {x y z : Operand} {V W R U : Value}
theorem xLookup {t : TypeId} {w : World} {c : Bool} (hl : (Instr.lookup t V W c).run P w = .ok R w) (ho : o.op = .lookup t x y c := by exact rfl) (hx : ρ x = V := by kernel_rfl) (hy : ρ y = W := by kernel_rfl) : (execOp ρ o).run P w = .ok (.value R) w := by
  unfold execOp
  simp only [ho, hx, hy, Sem.run_bind, Sem.run_pure, hl, Result.andThen_ok]
theorem xMakeMap {t : TypeId} {w w' : World} (hl : (Instr.makeMap t none).run P w = .ok R w') (ho : o.op = .makeMap t none := by exact rfl) : (execOp ρ o).run P w = .ok (.value R) w' := by
  unfold execOp
  simp only [ho, Option.map_none, Sem.run_bind, Sem.run_pure, hl, Result.andThen_ok]
theorem xIndex {t : TypeId} {w : World} (hl : (Instr.indexAt t V W).run P w = .ok R w) (ho : o.op = .indexAddr t x y := by exact rfl) (hx : ρ x = V := by kernel_rfl) (hy : ρ y = W := by kernel_rfl) : (execOp ρ o).run P w = .ok (.value R) w := by
  unfold execOp
  simp only [ho, hx, hy, Sem.run_bind, Sem.run_pure, hl, Result.andThen_ok]
theorem xBin {op : BinOp} {t r : TypeId} {w : World} (hg : (eqGuard op t x y V W).run P w = .ok () w) (hb : (binOp op t V W).run P w = .ok R w) (ho : o.op = .binOp op t x y r := by exact rfl) (hx : ρ x = V := by kernel_rfl) (hy : ρ y = W := by kernel_rfl) : (execOp ρ o).run P w = .ok (.value R) w := by
  unfold execOp
  simp only [ho, hx, hy, Sem.run_bind, Sem.run_pure, hg, hb, Result.andThen_ok]
theorem xLoad {t : TypeId} {w : World} (hl : (Instr.loadAt t V).run P w = .ok R w) (ho : o.op = .load t x := by exact rfl) (hx : ρ x = V := by kernel_rfl) : (execOp ρ o).run P w = .ok (.value R) w := by
  unfold execOp
  simp only [ho, hx, Sem.run_bind, Sem.run_pure, hl, Result.andThen_ok]
theorem xBuildS {t : TypeId} {n : Nat} {parts : Array (Nat × Operand)} {ps : Array (Nat × Value)} {w w' : World} (h : (Instr.buildSlice t n ps).run P w = .ok V w') (ho : o.op = .buildSlice t n parts := by exact rfl) (hx : (parts.map fun (i, x) => (i, ρ x)) = ps := by kernel_rfl) : (execOp ρ o).run P w = .ok (.value V) w' := by
  unfold execOp
  simp only [ho, hx, Sem.run_bind, Sem.run_pure, h, Result.andThen_ok]
theorem xConv {P : Program} {ρ : Operand → Value} {o : Oper} {x : Operand} {V R : Value} {s t : TypeId} {w : World} (hc : (convert s t V).run P w = .ok R w) (ho : o.op = .convert s t x := by exact rfl) (hx : ρ x = V := by kernel_rfl) : (execOp ρ o).run P w = .ok (.value R) w := by
  unfold execOp
  simp only [ho, hx, Sem.run_bind, Sem.run_pure, hc, Result.andThen_ok]
theorem xSlice {P : Program} {ρ : Operand → Value} {o : Oper} {x : Operand} {V R : Value} {t : TypeId} {lo hi mx : Option Operand} {l m n : Option Value} {w : World} (h : (Instr.sliceAt t V l m n).run P w = .ok R w) (ho : o.op = .slice t x lo hi mx := by exact rfl) (hx : ρ x = V := by kernel_rfl) (hl : lo.map ρ = l := by kernel_rfl) (hh : hi.map ρ = m := by kernel_rfl) (hm : mx.map ρ = n := by kernel_rfl) : (execOp ρ o).run P w = .ok (.value R) w := by
  unfold execOp
  simp only [ho, hx, hl, hh, hm, Sem.run_bind, Sem.run_pure, h, Result.andThen_ok]
theorem xStore {P : Program} {ρ : Operand → Value} {o : Oper} {x y : Operand} {V W : Value} {t : TypeId} {w w' : World} (h : (Instr.storeAt t V W).run P w = .ok () w') (ho : o.op = .store t x y := by exact rfl) (hx : ρ x = V := by kernel_rfl) (hy : ρ y = W := by kernel_rfl) : (execOp ρ o).run P w = .ok .skip w' := by
  unfold execOp
  simp only [ho, hx, hy, Sem.run_bind, Sem.run_pure, h, Result.andThen_ok]
end
section
variable {ρ : Operand → Value} {o : Oper} {x y : Operand}
theorem add_i64 (k : Nat) (h : k < 4611686018427387904) (w : World) : (binOp .add 3 (.int .i64 (k : Int)) (.int .i64 1)).run Tryz.prog w = .ok (.int .i64 ((k + 1 : Nat) : Int)) w := by
  have e : IntKind.i64.wrap ((k : Int) + 1) = ((k + 1 : Nat) : Int) := by simp [IntKind.wrap, IntKind.bits, IntKind.signed]; omega
  simp [go_sem, e]
theorem xInc (k : Nat) (h : k < 4611686018427387904) {r : TypeId} {w : World} (ho : o.op = .binOp .add 3 x y r := by exact rfl) (hx : ρ x = .int .i64 (k : Int) := by kernel_rfl) (hy : ρ y = .int .i64 1 := by kernel_rfl) : (execOp ρ o).run Tryz.prog w = .ok (.value (.int .i64 ((k + 1 : Nat) : Int))) w :=
  xBin (by simp [go_sem]) (add_i64 k h w) ho hx hy
theorem ldA {w : World} {p : Addr} {V : Value} (h : w.cell? p = some V) : (Instr.loadAt 22 (.pointer (some p))).run Tryz.prog w = .ok V w := by simp [go_sem, h]
theorem ldD {w : World} {p : Addr} {V : Value} (h : w.cell? p = some V) : (Instr.loadAt 5 (.pointer (some p))).run Tryz.prog w = .ok V w := by simp [go_sem, h]
theorem ixB (p : Addr) (n c k : Nat) (h : k < n) (w : World) : (Instr.indexAt 25 (.slice (some p) n c) (.int .i64 (k : Int))).run Tryz.prog w = .ok (.pointer (some (p.add k))) w := by
  simp [go_sem, h]
theorem BytesIn.ld {w : World} {B : Nat} {p : Addr} {xs : List Int} (h : BytesIn w B (some p) xs) {k : Nat} (hk : k < xs.length) : (Instr.loadAt 5 (.pointer (some (p.add k)))).run Tryz.prog w = .ok (.int .u8 xs[k]) w := by
  obtain ⟨q, e, -, h1⟩ := h k _ (List.getElem?_eq_getElem hk)
  cases e
  exact ldD h1
theorem BytesIn.addr {w : World} {B : Nat} {A : Option Addr} {xs : List Int} (h : BytesIn w B A xs) {k : Nat} (hk : k < xs.length) : ∃ p, A = some p := by
  obtain ⟨q, e, -⟩ := h k _ (List.getElem?_eq_getElem hk)
  exact ⟨q, e⟩
end
structure EvQ where
  ok : Bool
  l : Slots
  fs : List ((World → Result Next) × (World → Result Next))
def evq (P : Program) (ops : Array Oper) (W : World) (n : Nat) (base : List Value) : List Oper → Slots → List ((World → Result Next) × (World → Result Next)) → EvQ
  | [], l, fs => ⟨true, l, fs⟩
  | o :: r, l, fs => match wantO ops n base l o with
    | some true => match evP P W n base l o with
      | some (l', gs) => evq P ops W n base r l' (gs ++ fs)
      | none => ⟨false, l, fs⟩
    | some false => match o.dst with
      | some d => bif Nat.blt d n then evq P ops W n base r ((d, undef) :: l) fs else ⟨false, l, fs⟩
      | none => ⟨false, l, fs⟩
    | none => ⟨false, l, fs⟩
def okQ (E : EvQ) : Prop := (E.ok, E.fs.map (·.1)) = (true, E.fs.map (·.2))
section
variable {P : Program} {ops : Array Oper} {Q : Exit → Act → World → Prop} {S : World → Prop} {base : List Value} {l : Slots} {w w0 : World} {o : Oper}
theorem evq_mem {W : World} : ∀ (os : List Oper) (l : Slots) (fs), (evq P ops W base.length base os l fs).ok = true → ∀ x ∈ fs, x ∈ (evq P ops W base.length base os l fs).fs
  | [], _, _, _ => fun _ h => h
  | o :: r, l, fs, hok => by
    unfold evq at hok ⊢
    split at hok
    · split at hok
      · rename_i l' gs he
        exact fun x hx => evq_mem r l' (gs ++ fs) hok x (List.mem_append_right _ hx)
      · cases hok
    · split at hok
      · rename_i d hd
        cases hn : Nat.blt d base.length <;> rw [hn] at hok
        · cases hok
        · exact evq_mem r _ fs hok
      · cases hok
    · cases hok
theorem pure_run {W : World} {n : Nat} (hB : partB ops n = true) (hQ : ∀ d v c a w, Q (.panic c) (a.put d v) w → Q (.panic c) a w) :
    ∀ (is : List Nat) (f : Nat) (listed : Array Bool) (l : Slots) (fs) (w : World), (evq P ops W base.length base (atO ops is) l fs).ok = true → (∀ x ∈ (evq P ops W base.length base (atO ops is) l fs).fs, x.1 = x.2) →
    ordB ops n is listed = true → S w → PO P ops Q S n base f (setO is listed) (evq P ops W base.length base (atO ops is) l fs).l w → PO P ops Q S n base (f + is.length) listed l w
  | [], f, listed, l, fs, w, _, _, _, _, h => h
  | i :: r, f, listed, l, fs, w, hok, hf, ho, hS, h => by
    simp only [ordB, Bool.and_eq_true] at ho
    obtain ⟨h1, h2, h3, h4, h5⟩ := ho
    obtain ⟨o, hoi⟩ := Option.isSome_iff_exists.1 h1
    have hat : atO ops (i :: r) = o :: atO ops r := by rw [atO, hoi]
    rw [hat] at hok hf h
    unfold evq at hok hf h
    split at hok
    case h_2 hw =>
      simp only [hw] at hf h
      split at hok
      · rename_i d hd
        simp only [hd] at hf h
        cases hn : Nat.blt d base.length <;> rw [hn] at hok
        · cases hok
        · simp only [hn, cond_true] at hf h
          have := pure_run hB hQ r f (listed.setIfInBounds i true) _ fs w hok hf h5 hS h
          refine ⟨fun hi => part_skip d hd hoi hB h2 h3 h4 (by rw [hd]; exact hQ (some d) undef) (wantO_sound hw hi) hS ?_⟩
          rw [put_actO]
          exact this.h ⟨by simpa [Nat.blt_eq] using hn, hi⟩
      · cases hok
    case h_3 => cases hok
    case h_1 hw =>
    simp only [hw] at hf h
    split at hok
    · rename_i l' gs he
      simp only [he] at hf h
      have hm := evq_mem (atO ops r) l' (gs ++ fs) hok
      have key : ∃ d v, o.dst = some d ∧ Nat.blt d base.length = true ∧ l' = (d, v) :: l ∧ ∀ w', (execOp (evO base l) o).run P w' = .ok (.value v) w' := by
        unfold evP at he
        split at he
        · rename_i d x hd hop
          cases hlt : Nat.blt d base.length <;> rw [hlt] at he
          · cases he
          · injection he with he; injection he with e1 e2
            exact ⟨d, _, hd, hlt, e1.symm, fun w' => exMove (.inl hop) w'⟩
        · rename_i d x hd hop
          cases hlt : Nat.blt d base.length <;> rw [hlt] at he
          · cases he
          · injection he with he; injection he with e1 e2
            exact ⟨d, _, hd, hlt, e1.symm, fun w' => exMove (.inr hop) w'⟩
        · rename_i d hd n1 n2
          split at he
          · rename_i v w1 hv
            cases hlt : Nat.blt d base.length <;> rw [hlt] at he
            · cases he
            · injection he with he; injection he with e1 e2
              exact ⟨d, v, hd, hlt, e1.symm, fun w' => congrFun (hf _ (hm _ (List.mem_append_left _ (by rw [← e2]; exact List.mem_cons_self)))) w'⟩
          · cases he
        · cases he
      obtain ⟨d, v, hd, hn, el, hv⟩ := key
      have := pure_run hB hQ r f (listed.setIfInBounds i true) l' (gs ++ fs) w hok hf h5 hS h
      rw [el] at this
      refine ⟨fun hi => part_take d v hd hoi hB h2 h3 h4 (by rw [hd]; exact hQ (some d) v) (wantO_sound hw hi) (fun w' hs => by rw [evO_eq hi]; exact hv w') hS ?_⟩
      rw [put_actO]
      exact this.h ⟨by simpa [Nat.blt_eq] using hn, hi⟩
    · cases hok
theorem qM {n f : Nat} {listed : Array Bool} (is : List Nat) (hS : S w) (h : PO P ops Q S n base (f - is.length) (setO is listed) (evq P ops w base.length base (atO ops is) l []).l w)
    (hk : okQ (evq P ops w base.length base (atO ops is) l []) := by unfold okQ; kernel_rfl) (ha : (ordB ops n is listed && (partB ops n && Nat.ble is.length f)) = true := by kernel_rfl)
    (hQ : ∀ d v c a w, Q (.panic c) (a.put d v) w → Q (.panic c) a w := by intro d _ _ _ _ h; cases d <;> exact h) : PO P ops Q S n base f listed l w := by
  simp only [Bool.and_eq_true] at ha
  obtain ⟨a2, a3, a4⟩ := ha
  simp only [okQ, Prod.mk.injEq] at hk
  obtain ⟨h1, h3⟩ := hk
  have hle : is.length ≤ f := by simpa using a4
  have := pure_run (S := S) (base := base) (W := w) a3 hQ is (f - is.length) listed l [] w h1 (pairs_eq h3) a2 hS h
  rwa [Nat.sub_add_cancel hle] at this
def opNo (ops : Array Oper) (i : Nat) : Oper := (ops[i]?).getD { dst := none, op := .move (.const undef), type := 0, pos := "", after := #[], guard := none }
theorem opNo_eq {ops : Array Oper} {i : Nat} (h : (ops[i]?).isSome = true) : ops[i]? = some (opNo ops i) := by
  unfold opNo
  cases e : ops[i]? with
  | none => rw [e] at h; cases h
  | some o => rfl
theorem qT {n f : Nat} {listed : Array Bool} {V : Value} (i : Nat) (hS : S w) (he : ∀ w', S w' → (execOp (evO base l) (opNo ops i)).run P w' = .ok (.value V) w') (h : PO P ops Q S n base (f - 1) (listed.setIfInBounds i true) (putO (opNo ops i).dst V l) w)
    (hd : ((opNo ops i).dst.isSome, dstO (opNo ops i).dst base.length, wantO ops base.length base l (opNo ops i)) = (true, true, some true) := by kernel_rfl) (ha : (ordB ops n [i] listed && (partB ops n && Nat.blt 0 f)) = true := by kernel_rfl)
    (hQ : ∀ d v c a w, Q (.panic c) (a.put d v) w → Q (.panic c) a w := by intro d _ _ _ _ h; cases d <;> exact h) : PO P ops Q S n base f listed l w := by
  simp only [Prod.mk.injEq] at hd
  obtain ⟨d1, d2, d3⟩ := hd
  simp only [ordB, Bool.and_eq_true] at ha
  obtain ⟨⟨a1, a2, a3, a4, -⟩, a5, a6⟩ := ha
  have ho := opNo_eq a1
  obtain ⟨d, hd⟩ := Option.isSome_iff_exists.1 d1
  have hf : f = (f - 1) + 1 := by have : 0 < f := by simpa [Nat.blt_eq] using a6
                                  omega
  rw [hf]
  refine ⟨fun hi => part_take d V hd ho a5 a2 a3 a4 (by rw [hd]; exact hQ (some d) V) (wantO_sound d3 hi) (fun w' hs => by rw [evO_eq hi]; exact he w' hs) hS ?_⟩
  rw [← hd, put_actO]
  exact h.h (inO_put d2 hi)
structure SO (P : Program) (ops : Array Oper) (Q : Exit → Act → World → Prop) (S : World → Prop) (n : Nat) (base : List Value) (f : Nat) (listed : Array Bool) (i : Nat) (l : Slots) (w : World) : Prop where
  h : inO base.length l → i ∈ Region.ready .any ops listed → HeadInv .any ops n listed → i < n ∧ wpOp P ops Q i (fun a' w' => S w' ∧ wpAnyT P .any ops Q S n (tailL P ops Q n) f (listed.setIfInBounds i true) a' w') (actO base l) w
theorem poOne {n f : Nat} {listed : Array Bool} (i : Nat) (h : SO P ops Q S n base (f - 1) listed i l w) (hr : (Region.ready .any ops listed, Nat.blt 0 f) = ([i], true) := by kernel_rfl) : PO P ops Q S n base f listed l w := by
  simp only [Prod.mk.injEq] at hr
  have hf : f = (f - 1) + 1 := by have : 0 < f := by simpa [Nat.blt_eq] using hr.2
                                  omega
  rw [hf]
  refine ⟨fun hi inv => ⟨by rw [hr.1]; simp, fun k hk => ?_⟩⟩
  have hk' := hk
  rw [hr.1] at hk
  obtain rfl : k = i := by simpa using hk
  exact h.h hi hk' inv
end
end Go.Proofs.YtmnddlkhgajenaaGreatDoor
