/- Contracts and facts that the claim's proof wants (several texts in one). -/
import Derived.Test.YtmnddlkhgajenaaGreatDoorAcG7
namespace Go.Proofs.YtmnddlkhgajenaaGreatDoor
open Go.RowKit
set_option linter.unusedVariables false
set_option linter.unusedSimpArgs false
set_option maxRecDepth 20000
set_option maxHeartbeats 20000000
def costV (near : Bool) (y z q : Int) (t : Bool) : List Int :=
  if z = 0 then (if y = 0 ∨ y = 1 then [] else if y = 2 then 1 :: (if t then [3, 5] else [3]) else if y = 3 then [3, 5] else if t then [3, 5] else [3]) else
  if z = 1 then (if q = 0 then [3, 3] else [7]) else if z = 2 then (if y < 4 then [3] else if y < 6 then [3, 3, 3, 3] else [3, 3, 3]) else if z = 3 then [2] else
  if z = 4 ∨ z = 5 then (if y = 6 then [3, 1, 3] else []) else if z = 6 then 3 :: ((if near then [2] else []) ++ if y = 6 then [3] else []) else []
def costL (y z : Int) : List Int := if y = 6 ∧ z = 6 then [] else if y = 6 ∨ z = 6 then [3] else []
def costA (z : Int) : List Int := if z = 6 then [3] else []
def costH (y z p q : Int) (t : Bool) : List Int :=
  if z = 0 then 1 :: (if t then [3, 3] else []) else
  if z = 1 then (if q = 0 then [3, 3] else if p = 0 then [3, 3] else if p = 1 then [] else if p = 2 then [] else [2]) else
  if z = 2 then [3, 3] else if z = 3 then (if y = 0 then [3, 3] else if y = 2 ∨ y = 3 then [3, 4] else if y = 4 then [3, 3, 1, 3, 3, 2] else []) else
  if z = 4 then 3 :: 3 :: (if t then [1, 3, 3] else []) else if z = 5 then (if q = 0 then [1, 3, 3] else [3, 3, 1, 3, 3]) else if z = 6 then [3] else [1, 3, 3]
def costQ (near : Bool) (x y z p q : Int) (t : Bool) : List Int := if x = 0 then costV near y z q t else if x = 1 then costL y z else if x = 2 then costA z else costH y z p q t
def costE (x y z : Int) (t : Bool) : List Int :=
  if x = 1 then (if z = 0 ∨ z = 1 then [4] else if z = 2 then [7] else if z = 3 then [3, 3, 3, 3] else if z = 5 then [3, 3] else if z = 7 then (if y < 4 then [1] else if y < 6 then [3, 4, 3] else []) else []) else
  if x = 2 then (if 4 ≤ z ∨ y < 4 then [] else (if z = 0 then [3, 3, 2] else if z = 1 then [3, 5] else if z = 2 then [1, 4, 3] else [1, 3, 4]) ++ if decide (6 ≤ y) && t then [5] else []) else []
def costC (mem : Bool) (x : Int) : List Int := if mem then (if x = 1 then [3, 1] else [3, 1, 3]) else []
def headC (plane c : Int) : Int := if nearM plane c = true then (if fx c ≠ 0 ∨ fz c ≠ 6 then 8 else 3) else 0
def plus (l : List Int) (n : Int) : Int := l.foldl (· + ·) n
theorem plus_sum : ∀ (l : List Int) (n : Int), plus l n = n + l.sum
  | [], n => by simp [plus]
  | x :: l, n => by
    show plus l (n + x) = _
    rw [plus_sum l, List.sum_cons]
    omega
theorem cost_fin : ∀ c : Fin 256, ∀ t : Bool, ((c.val : Int) ≠ 203 → (c.val : Int) ≠ 237 → (c.val : Int) ≠ 221 → (c.val : Int) ≠ 253 →
    netM 0 c.val t = 4 + (costQ false (fx c.val) (fy c.val) (fz c.val) (fp c.val) (fq c.val) t).sum ∧
    netM 3 c.val t = 8 + (headC 3 c.val + (costQ (nearM 3 c.val) (fx c.val) (fy c.val) (fz c.val) (fp c.val) (fq c.val) t).sum) ∧
    netM 4 c.val t = 8 + (headC 4 c.val + (costQ (nearM 4 c.val) (fx c.val) (fy c.val) (fz c.val) (fp c.val) (fq c.val) t).sum)) ∧
    netM 2 c.val t = 8 + (costE (fx c.val) (fy c.val) (fz c.val) t).sum ∧ netM 1 c.val t = 8 + (costC (fz c.val == 6) (fx c.val)).sum ∧
    netM 5 c.val t = 16 + (costC true (fx c.val)).sum ∧ netM 6 c.val t = 16 + (costC true (fx c.val)).sum := by decide +kernel
theorem cost_all (c : Int) (t : Bool) (hc : B8 c) : (c ≠ 203 → c ≠ 237 → c ≠ 221 → c ≠ 253 →
    netM 0 c t = 4 + (costQ false (fx c) (fy c) (fz c) (fp c) (fq c) t).sum ∧
    netM 3 c t = 8 + (headC 3 c + (costQ (nearM 3 c) (fx c) (fy c) (fz c) (fp c) (fq c) t).sum) ∧
    netM 4 c t = 8 + (headC 4 c + (costQ (nearM 4 c) (fx c) (fy c) (fz c) (fp c) (fq c) t).sum)) ∧
    netM 2 c t = 8 + (costE (fx c) (fy c) (fz c) t).sum ∧ netM 1 c t = 8 + (costC (fz c == 6) (fx c)).sum ∧
    netM 5 c t = 16 + (costC true (fx c)).sum ∧ netM 6 c t = 16 + (costC true (fx c)).sum := by
  obtain ⟨h0, h1⟩ := hc
  have := cost_fin ⟨c.toNat, by omega⟩ t
  simp only at this
  rwa [Int.toNat_of_nonneg h0] at this
section
variable (a b n m : Int) (s : Ms) (ans : List Int)
theorem pay_pause : (pauseN m s).pay readsM ans n = (n + m, ans, s) := rfl
theorem pay_fetch : (fetchN s).pay readsM ans n = (n + 4, ans.tail, (ans.headD 0, ({ s with r := tickG s.r 1 } : Ms).pcUp)) := rfl
theorem pay_number : (numberN s).pay readsM ans n = (n + 3, ans.tail, (ans.headD 0, s.pcUp)) := rfl
theorem pay_word : (wordN s).pay readsM ans n = (n + 3 + 3, ans.tail.tail, (256 * ans.tail.headD 0 + ans.headD 0, s.pcUp.pcUp)) := rfl
theorem pay_aim : (aimN s).pay readsM ans n = (n + 3, ans.tail, { s.pcUp.wz (moveM s.hl (signedM (ans.headD 0))) with spot := moveM s.hl (signedM (ans.headD 0)), near := true, plane := 0 }) := rfl
end
section
variable (s : Ms) (ans : List Int) (n : Int)
theorem pay_jump (b : Bool) : ((jumpByN b s).pay readsM ans n).1 = plus (if b then [3, 5] else [3]) n := by cases b <;> rfl
theorem pay_call (b : Bool) : ((callN b s).pay readsM ans n).1 = plus (3 :: 3 :: if b then [1, 3, 3] else []) n := by cases b <;> rfl
theorem pay_two {c : Prop} [Decidable c] {α : Type} (t u : Tr α) {x : Int} (h : (t.pay readsM ans n).1 = x) (k : (u.pay readsM ans n).1 = x) : ((if c then t else u).pay readsM ans n).1 = x := by split <;> assumption
end
theorem pay_various (r : Rg) (plane x y z p q spot : Int) (near : Bool) (ans : List Int) (n : Int) (hy : 0 ≤ y ∧ y ≤ 7) (hz : 0 ≤ z ∧ z ≤ 7) (hq : 0 ≤ q ∧ q ≤ 1) :
    ∃ t, ((variousN ⟨r, plane, x, y, z, p, q, spot, near⟩).pay readsM ans n).1 = plus (costV near y z q t) n := by
  have hz' : z = 0 ∨ z = 1 ∨ z = 2 ∨ z = 3 ∨ z = 4 ∨ z = 5 ∨ z = 6 ∨ z = 7 := by omega
  have hy' : y = 0 ∨ y = 1 ∨ y = 2 ∨ y = 3 ∨ y = 4 ∨ y = 5 ∨ y = 6 ∨ y = 7 := by omega
  have hq' : q = 0 ∨ q = 1 := by omega
  rcases hz' with rfl | rfl | rfl | rfl | rfl | rfl | rfl | rfl
  · rcases hy' with rfl | rfl | rfl | rfl | rfl | rfl | rfl | rfl
    · exact ⟨true, rfl⟩
    · exact ⟨true, rfl⟩
    · exact ⟨_, pay_jump _ ans (n + 1) _⟩
    · exact ⟨true, rfl⟩
    all_goals exact ⟨_, pay_jump _ ans n _⟩
  · rcases hq' with rfl | rfl <;> exact ⟨true, rfl⟩
  · rcases hy' with rfl | rfl | rfl | rfl | rfl | rfl | rfl | rfl <;> exact ⟨true, rfl⟩
  · rcases hq' with rfl | rfl <;> exact ⟨true, rfl⟩
  · rcases hy' with rfl | rfl | rfl | rfl | rfl | rfl | rfl | rfl <;> exact ⟨true, rfl⟩
  · rcases hy' with rfl | rfl | rfl | rfl | rfl | rfl | rfl | rfl <;> exact ⟨true, rfl⟩
  · cases near <;> rcases hy' with rfl | rfl | rfl | rfl | rfl | rfl | rfl | rfl <;> exact ⟨true, rfl⟩
  · exact ⟨true, rfl⟩
theorem pay_load (r : Rg) (plane x y z p q spot : Int) (near : Bool) (ans : List Int) (n : Int) : ((loadN ⟨r, plane, x, y, z, p, q, spot, near⟩).pay readsM ans n).1 = plus (costL y z) n := by
  unfold loadN costL getN putN
  by_cases h1 : y = 6
  · by_cases h2 : z = 6
    · subst h1; subst h2; rfl
    · subst h1
      simp only [h2, and_false, if_false, if_true, true_or]
      rfl
  · by_cases h2 : z = 6
    · subst h2
      simp only [h1, false_and, if_false, if_true, or_true]
      rfl
    · simp only [h1, h2, false_and, if_false, or_false]
      rfl
theorem pay_reckon (r : Rg) (plane x y z p q spot : Int) (near : Bool) (ans : List Int) (n : Int) : ((reckonN ⟨r, plane, x, y, z, p, q, spot, near⟩).pay readsM ans n).1 = plus (costA z) n := by
  unfold reckonN costA getN
  by_cases h2 : z = 6
  · subst h2; rfl
  · simp only [h2, if_false]; rfl
theorem pay_control (r : Rg) (plane x y z p q spot : Int) (near : Bool) (ans : List Int) (n : Int) (hy : 0 ≤ y ∧ y ≤ 7) (hz : 0 ≤ z ∧ z ≤ 7) (hp : 0 ≤ p ∧ p ≤ 3) (hq : 0 ≤ q ∧ q ≤ 1) (hne : ¬ (z = 3 ∧ y = 1)) :
    ∃ t, ((controlN ⟨r, plane, x, y, z, p, q, spot, near⟩).pay readsM ans n).1 = plus (costH y z p q t) n := by
  have hz' : z = 0 ∨ z = 1 ∨ z = 2 ∨ z = 3 ∨ z = 4 ∨ z = 5 ∨ z = 6 ∨ z = 7 := by omega
  have hy' : y = 0 ∨ y = 1 ∨ y = 2 ∨ y = 3 ∨ y = 4 ∨ y = 5 ∨ y = 6 ∨ y = 7 := by omega
  have hp' : p = 0 ∨ p = 1 ∨ p = 2 ∨ p = 3 := by omega
  have hq' : q = 0 ∨ q = 1 := by omega
  rcases hz' with rfl | rfl | rfl | rfl | rfl | rfl | rfl | rfl
  · cases hc : (⟨r, plane, x, y, 0, p, q, spot, near⟩ : Ms).holds y with
    | true =>
      refine ⟨true, ?_⟩
      show (Tr.pay readsM (if (⟨r, plane, x, y, 0, p, q, spot, near⟩ : Ms).holds y = true then _ else _) ans (n + 1)).1 = _
      rw [if_pos hc]; rfl
    | false =>
      refine ⟨false, ?_⟩
      show (Tr.pay readsM (if (⟨r, plane, x, y, 0, p, q, spot, near⟩ : Ms).holds y = true then _ else _) ans (n + 1)).1 = _
      rw [if_neg (by rw [hc]; simp)]; rfl
  · rcases hq' with rfl | rfl <;> rcases hp' with rfl | rfl | rfl | rfl <;> exact ⟨true, rfl⟩
  · refine ⟨true, ?_⟩
    cases hc : (wordN (⟨r, plane, x, y, 2, p, q, spot, near⟩ : Ms)).pay readsM ans n with
    | mk m o =>
      obtain ⟨ys, a, st⟩ := o
      have h : (controlN ⟨r, plane, x, y, 2, p, q, spot, near⟩).pay readsM ans n = (if st.holds st.y then Tr.done ((st.wz a).pc a) else .done (st.wz a)).pay readsM ys m := by
        show (Tr.bind (wordN _) _).pay readsM ans n = _
        rw [Tr.pay_bind, hc]
      rw [h]
      rw [pay_word] at hc
      injection hc with hm _
      rw [← hm]
      split <;> rfl
  · rcases hy' with rfl | rfl | rfl | rfl | rfl | rfl | rfl | rfl
    · exact ⟨true, rfl⟩
    · exact absurd ⟨rfl, rfl⟩ hne
    all_goals exact ⟨true, rfl⟩
  · exact ⟨_, pay_call _ ans n _⟩
  · rcases hq' with rfl | rfl
    · rcases hp' with rfl | rfl | rfl | rfl <;> exact ⟨true, rfl⟩
    · exact ⟨true, rfl⟩
  · exact ⟨true, rfl⟩
  · exact ⟨true, rfl⟩
theorem pay_quarter (s : Ms) (ans : List Int) (n : Int) (hx : 0 ≤ s.x ∧ s.x ≤ 3) (hy : 0 ≤ s.y ∧ s.y ≤ 7) (hz : 0 ≤ s.z ∧ s.z ≤ 7) (hp : 0 ≤ s.p ∧ s.p ≤ 3) (hq : 0 ≤ s.q ∧ s.q ≤ 1) (hne : ¬ (s.x = 3 ∧ s.z = 3 ∧ s.y = 1)) :
    ∃ t, ((quarterN s).pay readsM ans n).1 = n + (costQ s.near s.x s.y s.z s.p s.q t).sum := by
  obtain ⟨r, plane, x, y, z, p, q, spot, near⟩ := s
  have hx' : x = 0 ∨ x = 1 ∨ x = 2 ∨ x = 3 := by simp only at hx; omega
  rcases hx' with rfl | rfl | rfl | rfl
  · obtain ⟨t, h⟩ := pay_various r plane 0 y z p q spot near ans n hy hz hq
    exact ⟨t, by rw [← plus_sum]; exact h⟩
  · exact ⟨true, by rw [← plus_sum]; exact pay_load r plane 1 y z p q spot near ans n⟩
  · exact ⟨true, by rw [← plus_sum]; exact pay_reckon r plane 2 y z p q spot near ans n⟩
  · obtain ⟨t, h⟩ := pay_control r plane 3 y z p q spot near ans n hy hz hp hq (fun h => hne ⟨rfl, h⟩)
    exact ⟨t, by rw [← plus_sum]; exact h⟩
theorem pay_extended (r : Rg) (plane x y z p q spot : Int) (near : Bool) (ans : List Int) (n : Int) (hy : 0 ≤ y ∧ y ≤ 7) (hz : 0 ≤ z ∧ z ≤ 7) (hq : 0 ≤ q ∧ q ≤ 1) :
    ((extendedN ⟨r, plane, x, y, z, p, q, spot, near⟩).pay readsM ans n).1 = plus (costE 1 y z true) n := by
  have hz' : z = 0 ∨ z = 1 ∨ z = 2 ∨ z = 3 ∨ z = 4 ∨ z = 5 ∨ z = 6 ∨ z = 7 := by omega
  have hy' : y = 0 ∨ y = 1 ∨ y = 2 ∨ y = 3 ∨ y = 4 ∨ y = 5 ∨ y = 6 ∨ y = 7 := by omega
  have hq' : q = 0 ∨ q = 1 := by omega
  rcases hz' with rfl | rfl | rfl | rfl | rfl | rfl | rfl | rfl
  · rcases hy' with rfl | rfl | rfl | rfl | rfl | rfl | rfl | rfl <;> rfl
  · rcases hy' with rfl | rfl | rfl | rfl | rfl | rfl | rfl | rfl <;> rfl
  · rcases hq' with rfl | rfl <;> rfl
  · rcases hq' with rfl | rfl <;> rfl
  · rfl
  · rfl
  · rcases hy' with rfl | rfl | rfl | rfl | rfl | rfl | rfl | rfl <;> rfl
  · rcases hy' with rfl | rfl | rfl | rfl | rfl | rfl | rfl | rfl <;> rfl
theorem pay_rep (s : Ms) (ans : List Int) (n : Int) : ((if 6 ≤ s.y ∧ againM s.z s.f = true then repeatN s else .done s).pay readsM ans n).1 = plus (if decide (6 ≤ s.y) && againM s.z s.f then [5] else []) n := by
  by_cases h1 : 6 ≤ s.y
  · cases h2 : againM s.z s.f with
    | true =>
      rw [if_pos ⟨h1, rfl⟩, decide_eq_true h1]
      exact pay_two ans (n + 5) _ _ rfl rfl
    | false =>
      rw [if_neg (fun h => by cases h.2), decide_eq_true h1]
      rfl
  · rw [if_neg (fun h => h1 h.1), decide_eq_false h1]
    rfl
theorem pay_block (r : Rg) (plane x y z p q spot : Int) (near : Bool) (ans : List Int) (n d : Int) (hy : 4 ≤ y ∧ y ≤ 7) (hz : 0 ≤ z ∧ z ≤ 3) :
    ∃ t, ((blockSel d ⟨r, plane, x, y, z, p, q, spot, near⟩).pay readsM ans n).1 = plus (costE 2 y z t) n := by
  have hz' : z = 0 ∨ z = 1 ∨ z = 2 ∨ z = 3 := by omega
  have hc : ∀ t, costE 2 y z t = (if z = 0 then [3, 3, 2] else if z = 1 then [3, 5] else if z = 2 then [1, 4, 3] else [1, 3, 4]) ++ if decide (6 ≤ y) && t then [5] else [] := fun t => by
    unfold costE
    rw [if_neg (by decide), if_pos rfl, if_neg (by omega)]
  have two : ∀ (l m : List Int), plus (l ++ m) n = plus m (plus l n) := fun l m => List.foldl_append
  unfold blockSel
  rw [Tr.pay_bind]
  rcases hz' with rfl | rfl | rfl | rfl
  · exact ⟨_, (pay_rep _ _ _).trans (by rw [hc, two]; rfl)⟩
  · exact ⟨_, (pay_rep _ _ _).trans (by rw [hc, two]; rfl)⟩
  · exact ⟨_, (pay_rep _ _ _).trans (by rw [hc, two]; rfl)⟩
  · exact ⟨_, (pay_rep _ _ _).trans (by rw [hc, two]; rfl)⟩
theorem pay_quarterE (r : Rg) (plane x y z p q spot : Int) (near : Bool) (ans : List Int) (n : Int) (hx : 0 ≤ x ∧ x ≤ 3) (hy : 0 ≤ y ∧ y ≤ 7) (hz : 0 ≤ z ∧ z ≤ 7) (hq : 0 ≤ q ∧ q ≤ 1) :
    ∃ t, ((quarterE ⟨r, plane, x, y, z, p, q, spot, near⟩).pay readsM ans n).1 = n + (costE x y z t).sum := by
  unfold quarterE
  by_cases h1 : x = 1
  · subst h1
    rw [if_pos rfl]
    exact ⟨true, by rw [← plus_sum]; exact pay_extended r plane 1 y z p q spot near ans n hy hz hq⟩
  · rw [if_neg h1]
    by_cases h2 : x = 2
    · subst h2
      rw [if_pos rfl]
      unfold blocksN
      by_cases h3 : 4 ≤ z ∨ y < 4
      · rw [if_pos h3]
        refine ⟨true, ?_⟩
        unfold costE
        rw [if_neg h1, if_pos rfl, if_pos h3, Tr.pay_done]
        simp
      · rw [if_neg h3]
        have k : ∀ d, ∃ t, ((blockSel d ⟨r, plane, 2, y, z, p, q, spot, near⟩).pay readsM ans n).1 = n + (costE 2 y z t).sum := fun d => by
          obtain ⟨t, h⟩ := pay_block r plane 2 y z p q spot near ans n d (by omega) (by omega)
          exact ⟨t, by rw [← plus_sum]; exact h⟩
        split
        · exact k 1
        · exact k (-1)
    · rw [if_neg h2]
      refine ⟨true, ?_⟩
      unfold costE
      rw [if_neg h1, if_neg h2, Tr.pay_done]
      simp
theorem pay_quarterC (s : Ms) (ans : List Int) (n : Int) (hx : 0 ≤ s.x ∧ s.x ≤ 3) (hz : 0 ≤ s.z ∧ s.z ≤ 7) : ((quarterC s).pay readsM ans n).1 = n + (costC s.inMem s.x).sum := by
  rw [← plus_sum]
  obtain ⟨r, plane, x, y, z, p, q, spot, near⟩ := s
  have hx' : x = 0 ∨ x = 1 ∨ x = 2 ∨ x = 3 := by simp only at hx; omega
  have hz' : z = 0 ∨ z = 1 ∨ z = 2 ∨ z = 3 ∨ z = 4 ∨ z = 5 ∨ z = 6 ∨ z = 7 := by simp only at hz; omega
  cases near <;> rcases hx' with rfl | rfl | rfl | rfl <;> rcases hz' with rfl | rfl | rfl | rfl | rfl | rfl | rfl | rfl <;> rfl
def preS (c : Int) (s : Ms) : Ms := ({ s.toPlane (if c = 253 then 4 else 3) with r := tickG s.r 1 } : Ms).pcUp
theorem exec_nil {c : Int} (h : c = 221 ∨ c = 253) (s : Ms) : execN [] c s = .error ⟨1, s.r.pc, 0, 4⟩ := by rw [execN, if_pos h]
theorem exec_cons {c : Int} (h : c = 221 ∨ c = 253) (s : Ms) (b : Int) (bs : List Int) : execN (b :: bs) c s = execN bs b (preS c s) := by rw [execN, if_pos h]; rfl
theorem fetch_k (a : Int) : CyK ⟨1, a, 0, 4⟩ := by simp [CyK]
theorem exec_k {e : Cy} : ∀ {xs : List Int} {c : Int} {s : Ms}, execN xs c s = .error e → CyK e := by
  intro xs
  induction xs with
  | nil =>
    intro c s h
    by_cases hp : c = 221 ∨ c = 253
    · rw [exec_nil hp] at h
      injection h with h; subst h
      exact fetch_k _
    · rw [exec_body hp] at h; exact (deaf_body c s).error h
  | cons x xs ih =>
    intro c s h
    by_cases hp : c = 221 ∨ c = 253
    · rw [exec_cons hp] at h; exact ih h
    · rw [exec_body hp] at h; exact (deaf_body c s).error h
def ms1 (g : Rg) : Ms := (({ ms0 g with r := tickG g 1 } : Ms).pcUp).noLate
theorem next_nil (g : Rg) : nextOf g [] = .error ⟨1, g.pc, 0, 4⟩ := by unfold nextOf; split <;> rfl
theorem next_halt {g : Rg} (h : g.halted = true) (b : Int) (bs : List Int) : nextOf g (b :: bs) = .ok ({ ms0 g with r := tickG g 1 }, bs) := by unfold nextOf; rw [if_pos h]; exact Tr.run_done _ _
theorem next_cons {g : Rg} (h : g.halted = false) (b : Int) (bs : List Int) : nextOf g (b :: bs) = execN bs b (ms1 g) := by unfold nextOf; rw [if_neg (by rw [h]; simp)]; rfl
theorem next_k {g : Rg} {e : Cy} {xs : List Int} (h : nextOf g xs = .error e) : CyK e := by
  cases xs with
  | nil => rw [next_nil] at h; injection h with h; subst h; exact fetch_k _
  | cons x xs =>
    cases hh : g.halted with
    | true => rw [next_halt hh] at h; cases h
    | false => rw [next_cons hh] at h; exact exec_k h
theorem after_k {g : Rg} {c : Int} {e : Cy} {xs : List Int} (h : afterOf g c xs = .error e) : CyK e := exec_k h
theorem pay_head (c : Int) (s : Ms) (hn : s.near = false) (hp : s.plane = 0 ∨ s.plane = 3 ∨ s.plane = 4) (ans : List Int) (n : Int) :
    ∃ ys st, (aloneHead c s).pay readsM ans n = (n + headC s.plane c, ys, st) ∧ st.near = nearM s.plane c ∧ st.x = fx c ∧ st.y = fy c ∧ st.z = fz c ∧ st.p = fp c ∧ st.q = fq c := by
  unfold aloneHead headC
  cases h : nearM s.plane c with
  | false => exact ⟨ans, s.split c, by simp [Tr.pay_done], hn, rfl, rfl, rfl, rfl, rfl⟩
  | true =>
    obtain ⟨st, hA, e0, e1, e2, e3, e4, e5⟩ : ∃ st : Ms, (aimN (s.split c)).pay readsM ans n = (n + 3, ans.tail, st) ∧ st.near = true ∧ st.x = fx c ∧ st.y = fy c ∧ st.z = fz c ∧ st.p = fp c ∧ st.q = fq c := ⟨_, pay_aim _ _ _, rfl, rfl, rfl, rfl, rfl, rfl⟩
    refine ⟨ans.tail, st, ?_, e0, e1, e2, e3, e4, e5⟩
    rw [if_pos rfl, Tr.pay_bind, hA]
    show (if st.x ≠ 0 ∨ st.z ≠ 6 then pauseN 5 st else .done st).pay readsM ans.tail (n + 3) = _
    rw [e1, e3]
    by_cases hx : fx c ≠ 0 ∨ fz c ≠ 6
    · rw [if_pos hx, if_pos rfl, if_pos hx, pay_pause, show n + 3 + 5 = n + 8 by omega]
    · rw [if_neg hx, if_pos rfl, if_neg hx, Tr.pay_done]
def codeOf (plane c : Int) (ans : List Int) : Int := if c = 203 then (if plane = 0 then ans.headD 0 else ans.tail.headD 0) else if c = 237 then ans.headD 0 else c
theorem head8 {xs : List Int} (h : Bytes8 xs) : B8 (xs.headD 0) := by
  cases xs with
  | nil => exact B8.zero
  | cons b bs => exact h.head
theorem tail8 {xs : List Int} (h : Bytes8 xs) : Bytes8 xs.tail := by
  cases xs with
  | nil => exact h
  | cons b bs => exact h.tail
theorem fx_le {c : Int} (h : B8 c) : 0 ≤ fx c ∧ fx c ≤ 3 := by have := h.1; have := h.2; unfold fx; omega
theorem fy_le (c : Int) : 0 ≤ fy c ∧ fy c ≤ 7 := by unfold fy; omega
theorem fz_le (c : Int) : 0 ≤ fz c ∧ fz c ≤ 7 := by unfold fz; omega
theorem fp_le (c : Int) : 0 ≤ fp c ∧ fp c ≤ 3 := by unfold fp; omega
theorem fq_le (c : Int) : 0 ≤ fq c ∧ fq c ≤ 1 := by unfold fq; omega
theorem cb_of {c : Int} (h : B8 c) (hx : fx c = 3) (hz : fz c = 3) (hy : fy c = 1) : c = 203 := by have := h.1; have := h.2; unfold fx fy fz at *; omega
theorem near_0 (c : Int) : nearM 0 c = false := by unfold nearM aheadM; simp
theorem pay_body {c : Int} (hc : B8 c) (hpre : ¬ (c = 221 ∨ c = 253)) (s : Ms) (hn : s.near = false) (hp : s.plane = 0 ∨ s.plane = 3 ∨ s.plane = 4) {ans : List Int} (ha : Bytes8 ans) (n : Int) :
    ∃ t, ((bodyN c s).pay readsM ans n).1 = n + netM (hPlane s.plane c) (codeOf s.plane c ans) t - (if c = 237 ∨ s.plane = 0 then 4 else 8) := by
  unfold bodyN
  by_cases h3 : c = 203
  · subst h3
    rw [if_pos rfl, Tr.pay_bind, Tr.pay_bind]
    simp only [Tr.pay_done]
    unfold codeCBN codeOf hPlane
    rw [if_pos rfl, if_pos rfl]
    by_cases h0 : s.plane = 0
    · have h0' : s.atHL.plane = 0 := h0
      rw [if_pos h0', if_pos h0, if_pos (.inr h0), pay_fetch, h0]
      have k := (cost_all (ans.headD 0) true (head8 ha)).2.2.1
      refine ⟨true, ?_⟩
      rw [pay_quarterC _ _ _ (fx_le (head8 ha)) (fz_le _)]
      show n + 4 + (costC (s.near || (fz (ans.headD 0) == 6)) (fx (ans.headD 0))).sum = n + netM 1 (ans.headD 0) true - 4
      rw [hn, Bool.false_or, k]
      omega
    · have h0' : ¬ s.atHL.plane = 0 := h0
      have k := cost_all (ans.tail.headD 0) true (head8 (tail8 ha))
      rw [if_neg h0', if_neg h0, if_neg (by rintro (h | h) <;> first | cases h | exact h0 h), Tr.pay_bind, pay_aim]
      simp only [Tr.pay_bind, pay_number, pay_pause, Tr.pay_done]
      refine ⟨true, ?_⟩
      rw [pay_quarterC _ _ _ (fx_le (head8 (tail8 ha))) (fz_le _)]
      show n + 3 + 3 + 2 + (costC true (fx (ans.tail.headD 0))).sum = n + netM (withinM s.plane) (ans.tail.headD 0) true - 8
      rcases hp with h | h | h
      · exact absurd h h0
      · rw [h, show withinM 3 = 5 from rfl, k.2.2.2.1]; omega
      · rw [h, show withinM 4 = 6 from rfl, k.2.2.2.2]; omega
  · by_cases h7 : c = 237
    · subst h7
      rw [if_neg h3, if_pos rfl, Tr.pay_bind, Tr.pay_bind, pay_fetch]
      simp only [Tr.pay_done]
      unfold codeOf hPlane
      rw [if_neg h3, if_pos rfl, if_neg h3, if_pos rfl, if_pos (.inl trivial)]
      obtain ⟨t, ht⟩ := pay_quarterE ({ s.atHL.toPlane 0 with r := tickG (s.atHL.toPlane 0).r 1 } : Ms).pcUp.r 0 (fx (ans.headD 0)) (fy (ans.headD 0)) (fz (ans.headD 0)) (fp (ans.headD 0)) (fq (ans.headD 0)) s.atHL.spot s.near ans.tail (n + 4) (fx_le (head8 ha)) (fy_le _) (fz_le _) (fq_le _)
      refine ⟨t, ht.trans ?_⟩
      rw [(cost_all (ans.headD 0) t (head8 ha)).2.1]
      omega
    · rw [if_neg h3, if_neg h7, Tr.pay_bind]
      obtain ⟨ys, st, e, e1, e2, e3, e4, e5, e6⟩ := pay_head c s.atHL hn hp ans n
      rw [e]
      obtain ⟨t, ht⟩ := pay_quarter st ys (n + headC s.atHL.plane c) (by rw [e2]; exact fx_le hc) (by rw [e3]; exact fy_le _) (by rw [e4]; exact fz_le _) (by rw [e5]; exact fp_le _) (by rw [e6]; exact fq_le _) (fun h => h3 (cb_of hc (e2.symm.trans h.1) (e4.symm.trans h.2.1) (e3.symm.trans h.2.2)))
      refine ⟨t, ht.trans ?_⟩
      have k := (cost_all c t hc).1 h3 h7 (fun h => hpre (.inl h)) (fun h => hpre (.inr h))
      rw [e1, e2, e3, e4, e5, e6]
      unfold codeOf hPlane
      rw [if_neg h3, if_neg h7, if_neg h3, if_neg h7]
      show n + headC s.plane c + (costQ (nearM s.plane c) (fx c) (fy c) (fz c) (fp c) (fq c) t).sum = _
      rcases hp with h | h | h
      · rw [if_pos (.inr h), h, k.1, near_0]
        unfold headC
        rw [near_0, if_neg (by simp)]
        omega
      · rw [if_neg (by rintro (h' | h') <;> omega), h, k.2.1]; omega
      · rw [if_neg (by rintro (h' | h') <;> omega), h, k.2.2]; omega
theorem after_pay {c : Int} (hc : B8 c) (h3 : ¬ (c = 221 ∨ c = 253 ∨ c = 203 ∨ c = 237)) (g : Rg) {ans : List Int} (ha : Bytes8 ans) (n : Int) : ∃ t, ((bodyN c (ms0 g).noLate).pay readsM ans n).1 = n + netM 0 c t - 4 := by
  obtain ⟨t, ht⟩ := pay_body hc (fun h => h3 (by rcases h with h | h; exact .inl h; exact .inr (.inl h))) (ms0 g).noLate rfl (.inl rfl) ha n
  refine ⟨t, ht.trans ?_⟩
  rw [if_pos (.inr rfl)]
  unfold hPlane codeOf
  rw [if_neg (fun h => h3 (.inr (.inr (.inl h)))), if_neg (fun h => h3 (.inr (.inr (.inr h)))), if_neg (fun h => h3 (.inr (.inr (.inl h)))), if_neg (fun h => h3 (.inr (.inr (.inr h))))]
  rfl
def whichM (g : Rg) (nmi irq : Bool) : Int := if nmi then 1 else if irq && (g.iff1 && !g.late) then 2 else 0
structure T3 where
  c : Cy
  g : Rg
  b : Bool
def askT (c : Cy) : T3 := ⟨c, zeroRg, false⟩
def endT (g : Rg) : T3 := ⟨zeroCy, g, true⟩
def ofX (X : Except Cy (Ms × List Int)) : T3 := ⟨cyOf X, rgOf X, doneOf X⟩
def pushL (sp pc : Int) : List Cy := [⟨7, 0, 0, 1⟩, ⟨3, (sp - 1) % 65536, pc / 256, 3⟩, ⟨3, (sp - 2) % 65536, pc % 256, 3⟩]
def tableL (at_ : Int) : List Cy := [⟨2, at_, 0, 3⟩, ⟨2, (at_ + 1) % 65536, 0, 3⟩]
def toldT (l : List Cy) (g : Rg) (n : Nat) : T3 := if n < l.length then askT (l.getD n zeroCy) else endT g
def begG (g : Rg) (iff1 iff2 : Bool) : Rg := { tickG g 1 with halted := false, late := false, iff1 := iff1, iff2 := iff2 }
def jumpG (g : Rg) (aim : Int) : Rg := { g with sp := (g.sp - 2) % 65536, pc := aim, wz := aim }
def prefixed (v : Int) : Bool := v == 203 || (v == 221 || (v == 237 || v == 253))
def irqT (g : Rg) (v : Int) (xs : List Int) : T3 :=
  if g.mode = 0 then (if prefixed v = true then endT (begG g false false) else ofX (afterOf (begG g false false) v xs)) else
  if g.mode = 1 then toldT (pushL g.sp g.pc) (jumpG (begG g false false) 56) xs.length else
  toldT (pushL g.sp g.pc ++ tableL (256 * g.i + v)) (jumpG (begG g false false) (256 * xs.getD 4 0 + xs.getD 3 0)) xs.length
def accOf (g : Rg) (which : Int) (xs : List Int) : T3 :=
  if which = 1 then (match xs with | [] => askT ⟨1, g.pc, 0, 4⟩ | _ :: ys => toldT (pushL g.sp g.pc) (jumpG (begG g false g.iff2) 102) ys.length) else
  if which = 2 then (match xs with | [] => askT ⟨6, g.pc, 0, 6⟩ | v :: ys => irqT g v ys) else ofX (nextOf g xs)
def readsA (k : Int) : Bool := k == 1 || (k == 2 || (k == 4 || k == 6))
def acF (g : Rg) (which : Int) (xs : List Int) : Cy × Bool := ((accOf g which xs).c, (accOf g which xs).b)
def accTakes (g : Rg) (which : Int) (ans : List Int) : Int := (takesGo readsA (acF g which) 200 [] ans 0).1
theorem RgB.beg {g : Rg} (h : RgB g) (i j : Bool) : RgB (begG g i j) := by
  have ht := h.tick 1
  exact ⟨ht.af, ht.bc, ht.de, ht.hl, ht.af2, ht.bc2, ht.de2, ht.hl2, ht.ix, ht.iy, ht.sp, ht.pc, ht.wz, ht.i, ht.r, ht.mode⟩
theorem push_t (sp pc : Int) : ∀ c ∈ pushL sp pc, 1 ≤ c.t ∧ c.t ≤ 7 := by
  intro c h
  simp only [pushL, List.mem_cons, List.not_mem_nil, or_false] at h
  rcases h with rfl | rfl | rfl <;> simp
theorem table_t (a : Int) : ∀ c ∈ tableL a, 1 ≤ c.t ∧ c.t ≤ 7 := by
  intro c h
  simp only [tableL, List.mem_cons, List.not_mem_nil, or_false] at h
  rcases h with rfl | rfl <;> simp
theorem told_t {l : List Cy} (h : ∀ c ∈ l, 1 ≤ c.t ∧ c.t ≤ 7) (g : Rg) (n : Nat) (hb : (toldT l g n).b = false) : 1 ≤ (toldT l g n).c.t ∧ (toldT l g n).c.t ≤ 7 := by
  unfold toldT at *
  split
  · rename_i hn
    have e : (askT (l.getD n zeroCy)).c = l[n] := by rw [List.getD_eq_getElem?_getD, List.getElem?_eq_getElem hn]; rfl
    rw [e]
    exact h _ (List.getElem_mem hn)
  · rename_i hn
    rw [if_neg hn] at hb
    cases hb
theorem ofX_t {X : Except Cy (Ms × List Int)} (h : ∀ e, X = .error e → CyK e) (hb : (ofX X).b = false) : 1 ≤ (ofX X).c.t ∧ (ofX X).c.t ≤ 7 := by
  rcases X with e | ⟨s, ys⟩
  · have := h e rfl; exact ⟨this.2.2.2.1, this.2.2.2.2.1⟩
  · cases hb
theorem acc_t (g : Rg) (which : Int) (xs : List Int) (hb : (accOf g which xs).b = false) : 1 ≤ (accOf g which xs).c.t ∧ (accOf g which xs).c.t ≤ 7 := by
  unfold accOf at *
  split
  · rename_i h1
    rw [if_pos h1] at hb
    cases xs with
    | nil => exact ⟨by show (1 : Int) ≤ 4; omega, by show (4 : Int) ≤ 7; omega⟩
    | cons v ys => exact told_t (push_t _ _) _ _ hb
  · rename_i h1
    rw [if_neg h1] at hb
    split
    · rename_i h2
      rw [if_pos h2] at hb
      cases xs with
      | nil => exact ⟨by show (1 : Int) ≤ 6; omega, by show (6 : Int) ≤ 7; omega⟩
      | cons v ys =>
        simp only at hb ⊢
        unfold irqT at *
        split
        · rename_i h3
          rw [if_pos h3] at hb
          split
          · rename_i h4; rw [if_pos h4] at hb; cases hb
          · rename_i h4; rw [if_neg h4] at hb; exact ofX_t (fun e he => after_k he) hb
        · rename_i h3
          rw [if_neg h3] at hb
          split
          · rename_i h4; rw [if_pos h4] at hb; exact told_t (push_t _ _) _ _ hb
          · rename_i h4; rw [if_neg h4] at hb
            exact told_t (fun c hc => (List.mem_append.1 hc).elim (push_t _ _ c) (table_t _ c)) _ _ hb
    · rename_i h2
      rw [if_neg h2] at hb
      exact ofX_t (fun e he => next_k he) hb
def lineF (l : List Cy) (n : Nat) : Cy × Bool := if n < l.length then (l.getD n zeroCy, false) else (zeroCy, true)
theorem told_line (l : List Cy) (g : Rg) (n : Nat) : ((toldT l g n).c, (toldT l g n).b) = lineF l n := by
  unfold toldT lineF
  split <;> rfl
theorem line_takes (f : List Int → Cy × Bool) : ∀ (l : List Cy) (k : Nat) (pre ans : List Int) (n : Int), l.length ≤ k → (∀ xs : List Int, f (pre ++ xs) = lineF l xs.length) → (takesGo readsA f k pre ans n).1 = n + (l.map (·.t)).sum := by
  intro l
  induction l with
  | nil =>
    intro k pre ans n hk h
    have h0 := h []
    rw [List.append_nil] at h0
    cases k with
    | zero => simp [takesGo]
    | succ k =>
      unfold takesGo
      rw [h0]
      simp [lineF]
  | cons c l ih =>
    intro k pre ans n hk h
    obtain ⟨k, rfl⟩ : ∃ j, k = j + 1 := ⟨k - 1, by simp at hk; omega⟩
    have h0 := h []
    rw [List.append_nil] at h0
    have step : ∀ b (xs : List Int), f ((pre ++ [b]) ++ xs) = lineF l xs.length := fun b xs => by
      rw [List.append_assoc, List.singleton_append, h (b :: xs)]
      unfold lineF
      simp only [List.length_cons, Nat.add_lt_add_iff_right]
      rfl
    have e0 : lineF (c :: l) ([] : List Int).length = (c, false) := by
      unfold lineF
      rw [if_pos (by simp)]
      rfl
    unfold takesGo
    rw [h0, e0]
    simp only [Bool.false_eq_true, if_false, List.map_cons, List.sum_cons]
    split
    · rw [ih k _ _ _ (by simpa using hk) (step _)]; omega
    · rw [ih k _ _ _ (by simpa using hk) (step _)]; omega
theorem acc_line (g : Rg) (which : Int) (c : Cy) (l : List Cy) (hr : readsA c.kind = true) (hl : l.length ≤ 199) (h0 : acF g which [] = (c, false)) (h : ∀ v xs, ((accOf g which (v :: xs)).c, (accOf g which (v :: xs)).b) = lineF l xs.length) (ans : List Int) : accTakes g which ans = c.t + (l.map (·.t)).sum := by
  have key := line_takes (acF g which) l 199 [ans.headD 0] ans.tail (0 + c.t) hl (fun xs => by rw [List.singleton_append]; exact h _ xs)
  unfold accTakes
  rw [takesGo, h0]
  simp only [Bool.false_eq_true, if_false]
  rw [if_pos hr, List.nil_append, key]
  omega
theorem acc_nmi (g : Rg) (ans : List Int) : accTakes g 1 ans = 11 :=
  (acc_line g 1 ⟨1, g.pc, 0, 4⟩ (pushL g.sp g.pc) rfl (by simp [pushL]) rfl (fun v xs => told_line _ _ _) ans).trans (by simp [pushL])
theorem acc_one {g : Rg} (h : g.mode = 1) (ans : List Int) : accTakes g 2 ans = 13 :=
  (acc_line g 2 ⟨6, g.pc, 0, 6⟩ (pushL g.sp g.pc) rfl (by simp [pushL]) rfl (fun v xs => by
    show ((irqT g v xs).c, (irqT g v xs).b) = _
    unfold irqT
    rw [if_neg (by omega), if_pos h]
    exact told_line _ _ _) ans).trans (by simp [pushL])
theorem acc_two {g : Rg} (h0 : g.mode ≠ 0) (h1 : g.mode ≠ 1) (ans : List Int) : accTakes g 2 ans = 19 := by
  -- the addresses hang on the vector, the states don't
  have hv := ans.headD 0
  have key := line_takes (acF g 2) (pushL g.sp g.pc ++ tableL (256 * g.i + ans.headD 0)) 199 [ans.headD 0] ans.tail (0 + 6) (by simp [pushL, tableL]) (fun xs => by
    rw [List.singleton_append]
    show ((irqT g (ans.headD 0) xs).c, (irqT g (ans.headD 0) xs).b) = _
    unfold irqT
    rw [if_neg h0, if_neg h1]
    exact told_line _ _ _)
  unfold accTakes
  rw [takesGo, show acF g 2 [] = (⟨6, g.pc, 0, 6⟩, false) from rfl]
  simp only [Bool.false_eq_true, if_false]
  rw [if_pos (show readsA 6 = true from rfl), List.nil_append, key]
  simp [pushL, tableL]
theorem acc_zero {g : Rg} (h0 : g.mode = 0) {c : Int} (hc : B8 c) (hp : prefixed c = false) {ys : List Int} (hy : Bytes8 ys) : ∃ t, accTakes g 2 (c :: ys) = netM 0 c t + 2 := by
  have h3 : ¬ (c = 221 ∨ c = 253 ∨ c = 203 ∨ c = 237) := by
    unfold prefixed at hp
    simp only [Bool.or_eq_false_iff, beq_eq_false_iff_ne] at hp
    omega
  have key := (takes_tree (rd := readsA) (f := acF g 2) 199 [c] ys (0 + 6) (depth_body c (ms0 (begG g false false)).noLate) (by omega) (fun xs => by
    rw [List.singleton_append]
    show ((irqT g c xs).c, (irqT g c xs).b) = _
    unfold irqT
    rw [if_pos h0, if_neg (by rw [hp]; simp)]
    unfold afterOf
    rw [exec_body (fun h => h3 (by rcases h with h | h; exact .inl h; exact .inr (.inl h)))]
    rcases (bodyN c (ms0 (begG g false false)).noLate).run xs with e | ⟨s, zs⟩ <;> rfl)).1
  obtain ⟨t, ht⟩ := after_pay hc h3 (begG g false false) hy (0 + 6)
  refine ⟨t, ?_⟩
  unfold accTakes
  rw [takesGo, show acF g 2 [] = (⟨6, g.pc, 0, 6⟩, false) from rfl]
  simp only [Bool.false_eq_true, if_false]
  rw [if_pos (show readsA 6 = true from rfl)]
  show (takesGo readsA (acF g 2) 199 [c] ys (0 + 6)).1 = _
  rw [key, (deaf_body c _).pay (rd' := readsM) (fun k hk => by unfold readsA readsM; rw [show (k == 6) = false from beq_eq_false_iff_ne.2 hk, Bool.or_false]) ys, ht]
  omega
theorem acc_prefix {g : Rg} (h0 : g.mode = 0) {c : Int} (hp : prefixed c = true) (ys : List Int) : accTakes g 2 (c :: ys) = 6 := by
  have key := line_takes (acF g 2) [] 199 [c] ys (0 + 6) (by simp) (fun xs => by
    rw [List.singleton_append]
    show ((irqT g c xs).c, (irqT g c xs).b) = _
    unfold irqT
    rw [if_pos h0, if_pos hp]
    rfl)
  unfold accTakes
  rw [takesGo, show acF g 2 [] = (⟨6, g.pc, 0, 6⟩, false) from rfl]
  simp only [Bool.false_eq_true, if_false]
  rw [if_pos (show readsA 6 = true from rfl), List.nil_append]
  exact key
end Go.Proofs.YtmnddlkhgajenaaGreatDoor
