/- Layer 8 (decode): what the bytes of an instruction read as; the document's own Bare. -/
import Derived.Test.YtgdpafldhmchpaaDoorDecodeMake
namespace Go.Proofs.YtgdpafldhmchpaaDoor
open Go.RowKit
set_option linter.unusedVariables false
set_option linter.unusedSimpArgs false

def bareM (p c : Int) : Bool := if p = 0 ∨ p = 3 ∨ p = 4 then !(c == 203) && (!(c == 237) && (!(c == 221) && !(c == 253))) else decide (0 ≤ p) && decide (p ≤ 6)
def immOf (p c i : Int) : Int := if sizeM p c = 2 then i else if sizeM p c = 1 then i % 256 else 0
def dispOf (p c d : Int) : Int := if nearM p c then d else 0
theorem imm_pair (i : Int) : 256 * (i / 256) + i % 256 = i := by omega
/-- opOf behind m prefixes -/
theorem opOf_at (xs : List Int) (m : Nat) (h : lead xs = m) : opOf xs = opAt (gb xs) m (preP xs m) ((m - 1 : Nat) : Int) := by
  unfold opOf
  rw [h]
theorem immL_0 (i : Int) : immL 0 i = [] := rfl
theorem immL_1 (i : Int) : immL 1 i = [i % 256] := rfl
theorem immL_2 (i : Int) : immL 2 i = [i % 256, i / 256] := rfl
/-- the bytes of a bare instruction read as the instruction, whatever stands behind them -/
theorem read_made (p c d i : Int) (behind : List Int) (hb : bareM p c = true) :
    opOf (bytesL p c d i ++ behind) = ⟨p, c, dispOf p c d, immOf p c i, ((bytesL p c d i).length : Int), 0⟩ ∧ bytesL p c d i ≠ [] := by
  have hsz := sizeM_le p c
  have hp : 0 ≤ p ∧ p ≤ 6 := by
    unfold bareM at hb
    split at hb
    · omega
    · simp at hb; exact hb
  have hs : sizeM p c = 0 ∨ sizeM p c = 1 ∨ sizeM p c = 2 := by omega
  have e0 : bytesL p c d i = preL p ++ midL p c d ++ immL (sizeM p c).toNat i := by
    unfold bytesL
    rw [if_neg (by omega)]
  rw [e0]
  obtain rfl | rfl | rfl | rfl | rfl | rfl | rfl : p = 0 ∨ p = 1 ∨ p = 2 ∨ p = 3 ∨ p = 4 ∨ p = 5 ∨ p = 6 := by omega
  · have hc : ¬ c = 203 ∧ ¬ c = 237 ∧ ¬ c = 221 ∧ ¬ c = 253 := by unfold bareM at hb; simpa using hb
    obtain ⟨n1, n2, n3, n4⟩ := hc
    have hn : nearM 0 c = false := by unfold nearM aheadM; simp
    have hl : ∀ l, lead (c :: l) = 0 := fun l => by unfold lead isPre; simp [n3, n4]
    rcases hs with h | h | h <;> rw [h] <;> simp only [preL, midL, aheadM, hn] <;> (refine ⟨?_, by simp⟩) <;>
      simp [immL, opOf_at _ 0 (hl _), opAt, hPlane, hCode, hDisp, hReads, hSkip, preP, aheadM, immM, dispOf, immOf, gb, n1, n2, hn, h, imm_pair]
  · have hn : nearM 1 c = false := by unfold nearM aheadM; simp
    have h : sizeM 1 c = 0 := by unfold sizeM; simp
    have hl : ∀ l, lead (203 :: l) = 0 := fun l => by unfold lead isPre; simp
    rw [h]
    simp only [preL, midL, aheadM, hn]
    refine ⟨?_, by simp⟩
    simp [immL, opOf_at _ 0 (hl _), opAt, hPlane, hCode, hDisp, hReads, hSkip, preP, aheadM, withinM, immM, dispOf, immOf, gb, hn, h]
  · have hn : nearM 2 c = false := by unfold nearM aheadM; simp
    have hl : ∀ l, lead (237 :: l) = 0 := fun l => by unfold lead isPre; simp
    rcases hs with h | h | h <;> rw [h] <;> simp only [preL, midL, aheadM, hn] <;> (refine ⟨?_, by simp⟩) <;>
      simp [immL, opOf_at _ 0 (hl _), opAt, hPlane, hCode, hDisp, hReads, hSkip, preP, aheadM, immM, dispOf, immOf, gb, hn, h, imm_pair]
  · have hc : ¬ c = 203 ∧ ¬ c = 237 ∧ ¬ c = 221 ∧ ¬ c = 253 := by unfold bareM at hb; simpa using hb
    obtain ⟨n1, n2, n3, n4⟩ := hc
    have hl : ∀ l, lead (221 :: c :: l) = 1 := fun l => by unfold lead lead isPre; simp [n3, n4]
    cases hn : nearM 3 c <;> rcases hs with h | h | h <;> rw [h] <;> simp only [preL, midL, aheadM, hn] <;> (refine ⟨?_, by simp⟩) <;>
      simp [immL, opOf_at _ 1 (hl _), opAt, hPlane, hCode, hDisp, hReads, hSkip, preP, aheadM, immM, dispOf, immOf, gb, n1, n2, hn, h, imm_pair]
  · have hc : ¬ c = 203 ∧ ¬ c = 237 ∧ ¬ c = 221 ∧ ¬ c = 253 := by unfold bareM at hb; simpa using hb
    obtain ⟨n1, n2, n3, n4⟩ := hc
    have hl : ∀ l, lead (253 :: c :: l) = 1 := fun l => by unfold lead lead isPre; simp [n3, n4]
    cases hn : nearM 4 c <;> rcases hs with h | h | h <;> rw [h] <;> simp only [preL, midL, aheadM, hn] <;> (refine ⟨?_, by simp⟩) <;>
      simp [immL, opOf_at _ 1 (hl _), opAt, hPlane, hCode, hDisp, hReads, hSkip, preP, aheadM, immM, dispOf, immOf, gb, n1, n2, hn, h, imm_pair]
  · have hn : nearM 5 c = true := by unfold nearM aheadM; simp
    have h : sizeM 5 c = 0 := by unfold sizeM; simp
    have hl : ∀ l, lead (221 :: 203 :: l) = 1 := fun l => by unfold lead lead isPre; simp
    rw [h]
    simp only [preL, midL, aheadM, hn]
    refine ⟨?_, by simp⟩
    simp [immL, opOf_at _ 1 (hl _), opAt, hPlane, hCode, hDisp, hReads, hSkip, preP, aheadM, withinM, immM, dispOf, immOf, gb, hn, h]
  · have hn : nearM 6 c = true := by unfold nearM aheadM; simp
    have h : sizeM 6 c = 0 := by unfold sizeM; simp
    have hl : ∀ l, lead (253 :: 203 :: l) = 1 := fun l => by unfold lead lead isPre; simp
    rw [h]
    simp only [preL, midL, aheadM, hn]
    refine ⟨?_, by simp⟩
    simp [immL, opOf_at _ 1 (hl _), opAt, hPlane, hCode, hDisp, hReads, hSkip, preP, aheadM, withinM, immM, dispOf, immOf, gb, hn, h]
theorem made_ok (p c d i : Int) (behind : List Int) (hb : bareM p c = true) :
    okM (bytesL p c d i ++ behind) = true ∧ nextO (bytesL p c d i ++ behind) = ⟨p, c, dispOf p c d, immOf p c i, ((bytesL p c d i).length : Int), 0⟩ := by
  have h := (read_made p c d i behind hb).1
  have ho : okM (bytesL p c d i ++ behind) = true := by
    unfold okM lenOf
    rw [h]
    simp
  exact ⟨ho, by unfold nextO; rw [if_pos ho, h]⟩
theorem immL_le (n : Nat) (i : Int) : (immL n i).length ≤ 2 := by
  unfold immL
  rw [List.length_take]
  simp
  omega
theorem made_le (p c d i : Int) : (bytesL p c d i).length ≤ 6 := by
  have h1 : (preL p).length ≤ 2 := by unfold preL; repeat' split
                                      all_goals simp
  have h2 : (midL p c d).length ≤ 2 := by unfold midL; repeat' split
                                          all_goals simp
  have h3 := immL_le (sizeM p c).toNat i
  unfold bytesL
  split
  · simp
  · rw [List.length_append, List.length_append]; omega
theorem made_bytes (p c d i : Int) (hc : B8 c) (hd : B8 d) (h0 : 0 ≤ i) (h1 : i ≤ 65535) : Bytes8 (bytesL p c d i) := by
  unfold bytesL
  split
  · intro x hx; simp at hx
  · intro x hx
    rw [List.mem_append, List.mem_append] at hx
    rcases hx with (hx | hx) | hx
    · unfold preL at hx
      repeat' split at hx
      all_goals simp at hx
      all_goals first | (subst hx; exact ⟨by decide, by decide⟩) | (rcases hx with rfl | rfl <;> exact ⟨by decide, by decide⟩)
    · unfold midL at hx
      repeat' split at hx
      all_goals simp at hx
      all_goals first | (subst hx; assumption) | (rcases hx with rfl | rfl <;> assumption)
    · have := List.mem_of_mem_take hx
      simp at this
      rcases this with rfl | rfl
      · exact ⟨by omega, by omega⟩
      · exact ⟨by omega, by omega⟩
set_option maxHeartbeats 4000000 in
theorem bare_any (p c d i le sk : Int) (w : World) :
    Calls Tryd.prog 9 #[opV p c d i le sk] w fun e w' => e = .returned (.bool (bareM p c)) ∧ Below w.heap.size w w' := by
  by_cases h : p = 0 ∨ p = 3 ∨ p = 4
  · have e : bareM p c = (!(c == 203) && (!(c == 237) && (!(c == 221) && !(c == 253)))) := by unfold bareM; rw [if_pos h]
    rw [e]
    rcases h with rfl | rfl | rfl
    all_goals
      cases q1 : (c == 203) <;> cases q2 : (c == 237) <;> cases q3 : (c == 221) <;> cases q4 : (c == 253)
      all_goals
        have r1 : (c != 203) = !(c == 203) := rfl
        have r2 : (c != 237) = !(c == 237) := rfl
        have r3 : (c != 221) = !(c == 221) := rfl
        have r4 : (c != 253) = !(c == 253) := rfl
        rw [q1] at r1
        rw [q2] at r2
        rw [q3] at r3
        rw [q4] at r4
        simp only [Bool.not_true, Bool.not_false] at r1 r2 r3 r4
        go_enter Tryd.func9, Tryd.ntmps9
        go_wp2
        go_ret
        exact ⟨rfl, (by repeat (first | exact Below.refl _ _ | assumption | refine bstep ?_ (by assumption) | refine Below.drew ?_ | refine Below.alloc ?_ (by first | (simp; done) | (simp; omega) | omega) _ | refine Below.setCell ?_ (by first | (simp; done) | (simp; omega) | omega) _))⟩
  · have e : bareM p c = (decide (0 ≤ p) && decide (p ≤ 6)) := by unfold bareM; rw [if_neg h]
    rw [e]
    have q1 : (p == 0) = false := by simp; omega
    have q2 : (p == 3) = false := by simp; omega
    have q3 : (p == 4) = false := by simp; omega
    clear h
    rcases Int.lt_or_le p 0 with h1 | h1
    · have e1 : decide (0 ≤ p) = false := by simp; omega
      rw [e1, Bool.false_and]
      go_enter Tryd.func9, Tryd.ntmps9
      go_wp2
      go_ret
      exact ⟨rfl, (by repeat (first | exact Below.refl _ _ | assumption | refine bstep ?_ (by assumption) | refine Below.drew ?_ | refine Below.alloc ?_ (by first | (simp; done) | (simp; omega) | omega) _ | refine Below.setCell ?_ (by first | (simp; done) | (simp; omega) | omega) _))⟩
    · rcases Int.lt_or_le 6 p with h2 | h2
      · have e1 : decide (0 ≤ p) = true := by simp; omega
        have e2 : decide (p ≤ 6) = false := by simp; omega
        rw [e1, e2]
        go_enter Tryd.func9, Tryd.ntmps9
        go_wp2
        go_ret
        exact ⟨rfl, (by repeat (first | exact Below.refl _ _ | assumption | refine bstep ?_ (by assumption) | refine Below.drew ?_ | refine Below.alloc ?_ (by first | (simp; done) | (simp; omega) | omega) _ | refine Below.setCell ?_ (by first | (simp; done) | (simp; omega) | omega) _))⟩
      · have e1 : decide (0 ≤ p) = true := by simp; omega
        have e2 : decide (p ≤ 6) = true := by simp; omega
        rw [e1, e2]
        go_enter Tryd.func9, Tryd.ntmps9
        go_wp2
        go_ret
        exact ⟨rfl, (by repeat (first | exact Below.refl _ _ | assumption | refine bstep ?_ (by assumption) | refine Below.drew ?_ | refine Below.alloc ?_ (by first | (simp; done) | (simp; omega) | omega) _ | refine Below.setCell ?_ (by first | (simp; done) | (simp; omega) | omega) _))⟩
end Go.Proofs.YtgdpafldhmchpaaDoor
