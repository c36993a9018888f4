/- Layer 9 (text): what any sign of a form stands for: contract of operand. -/
import Derived.Test.YtgdpafldhmchpaaDoorTextOpnd
import Derived.Test.YtgdpafldhmchpaaDoorTextOpnz
namespace Go.Proofs.YtgdpafldhmchpaaDoor
open Go.RowKit
set_option linter.unusedVariables false
set_option linter.unusedSimpArgs false

/-- the value by which a plane's names are told -/
def namerV (pl c d m le sk : Int) : Value := if pl = 3 ∨ pl = 4 then movedV pl c d m le sk else plainV pl c d m le sk
theorem nameT_plain {pl : Int} (h : ¬ (pl = 3 ∨ pl = 4)) (n : Bool) (t : List Nat) : nameT pl n t = t := by unfold nameT; rw [if_neg h]
theorem pick_lt (l : List (List Nat)) (h : ∀ t ∈ l, ∀ k ∈ t, k < 256) (i : Int) : ∀ k ∈ pick l i, k < 256 := by
  intro k hk
  unfold pick at hk
  rw [List.getD_eq_getElem?_getD] at hk
  cases e : l[i.toNat]? with
  | none => rw [e] at hk; simp at hk
  | some t => rw [e] at hk; exact h t (List.mem_of_getElem? e) k hk
theorem operand_any (pl c d m le sk x y z p q : Int) (hc : B8 c) (hd : B8 d) (hm : 0 ≤ m ∧ m ≤ 65535) (hy : 0 ≤ y ∧ y ≤ 7) (hz : 0 ≤ z ∧ z ≤ 7) (hp : 0 ≤ p ∧ p ≤ 3) (k : Nat) (hk : k < 256) (w : World) (h : TextTabs w) :
    Calls Tryd.prog 34 #[shV pl c d m le sk x y z p q (namerV pl c d m le sk), .string ⟨#[UInt8.ofNat k]⟩] w fun e w' => e = .returned (.string (sy pl d m (opT pl (nearM pl c) y z p k))) ∧ Below w.heap.size w w' := by
  unfold namerV
  by_cases k1 : k = 82
  · subst k1
    show Calls _ _ #[_, .string ⟨#[82]⟩] w fun e w' => e = .returned (.string (sy pl d m (nameT pl (nearM pl c) (pick regN y)))) ∧ Below w.heap.size w w'
    by_cases h3 : pl = 3 ∨ pl = 4
    · rw [if_pos h3]; exact operR_m pl c d m le sk x y z p q h3 hc hd hy w h
    · rw [if_neg h3, nameT_plain h3, ← sy_sb pl d m _ (pick_lt _ (by decide) _)]; exact operR_p pl c d m le sk x y z p q hy w h
  by_cases k2 : k = 83
  · subst k2
    show Calls _ _ #[_, .string ⟨#[83]⟩] w fun e w' => e = .returned (.string (sy pl d m (nameT pl (nearM pl c) (pick regN z)))) ∧ Below w.heap.size w w'
    by_cases h3 : pl = 3 ∨ pl = 4
    · rw [if_pos h3]; exact operS_m pl c d m le sk x y z p q h3 hc hd hz w h
    · rw [if_neg h3, nameT_plain h3, ← sy_sb pl d m _ (pick_lt _ (by decide) _)]; exact operS_p pl c d m le sk x y z p q hz w h
  by_cases k3 : k = 80
  · subst k3
    show Calls _ _ #[_, .string ⟨#[80]⟩] w fun e w' => e = .returned (.string (sy pl d m (nameT pl (nearM pl c) (pick pairN p)))) ∧ Below w.heap.size w w'
    by_cases h3 : pl = 3 ∨ pl = 4
    · rw [if_pos h3]; exact operP_m pl c d m le sk x y z p q h3 hc hd hp w h
    · rw [if_neg h3, nameT_plain h3, ← sy_sb pl d m _ (pick_lt _ (by decide) _)]; exact operP_p pl c d m le sk x y z p q hp w h
  by_cases k4 : k = 81
  · subst k4
    show Calls _ _ #[_, .string ⟨#[81]⟩] w fun e w' => e = .returned (.string (sy pl d m (nameT pl (nearM pl c) (pick stackN p)))) ∧ Below w.heap.size w w'
    by_cases h3 : pl = 3 ∨ pl = 4
    · rw [if_pos h3]; exact operQ_m pl c d m le sk x y z p q h3 hc hd hp w h
    · rw [if_neg h3, nameT_plain h3, ← sy_sb pl d m _ (pick_lt _ (by decide) _)]; exact operQ_p pl c d m le sk x y z p q hp w h
  by_cases k5 : k = 72
  · subst k5
    show Calls _ _ #[_, .string ⟨#[72]⟩] w fun e w' => e = .returned (.string (sy pl d m (nameT pl (nearM pl c) [104, 108]))) ∧ Below w.heap.size w w'
    by_cases h3 : pl = 3 ∨ pl = 4
    · rw [if_pos h3]; exact operH_m pl c d m le sk x y z p q h3 hc hd w h
    · rw [if_neg h3, nameT_plain h3, ← sy_sb pl d m _ (by decide)]; exact operH_p pl c d m le sk x y z p q w h
  generalize (if pl = 3 ∨ pl = 4 then movedV pl c d m le sk else plainV pl c d m le sk) = f
  by_cases k6 : k = 73
  · subst k6
    have := operI_any pl c d m le sk x y z p q f hd w h
    skip
    exact this
  by_cases k7 : k = 67
  · subst k7
    have := operC_any pl c d m le sk x y z p q f hy w h
    rw [sy_sb pl d m _ (pick_lt _ (by decide) _)] at this
    exact this
  by_cases k8 : k = 74
  · subst k8
    have := operJ_any pl c d m le sk x y z p q f hy w h
    rw [sy_sb pl d m _ (pick_lt _ (by decide) _)] at this
    exact this
  by_cases k9 : k = 65
  · subst k9
    have := operA_any pl c d m le sk x y z p q f hy w h
    rw [sy_sb pl d m _ (pick_lt _ (by decide) _)] at this
    exact this
  by_cases k10 : k = 75
  · subst k10
    have := operK_any pl c d m le sk x y z p q f hy w h
    rw [sy_sb pl d m _ (pick_lt _ (by decide) _)] at this
    exact this
  by_cases k11 : k = 77
  · subst k11
    have := operM_any pl c d m le sk x y z p q f hy w h
    rw [sy_sb pl d m _ (pick_lt _ (by decide) _)] at this
    exact this
  by_cases k12 : k = 89
  · subst k12
    have := operY_any pl c d m le sk x y z p q f hy w h
    rw [sy_sb pl d m _ (pick_lt _ (by decide) _)] at this
    exact this
  by_cases k13 : k = 86
  · subst k13
    have := operV_any pl c d m le sk x y z p q f hy w h
    rw [sy_sb pl d m _ (pick_lt _ (by decide) _)] at this
    exact this
  by_cases k14 : k = 78
  · subst k14
    have := operN_any pl c d m le sk x y z p q f hm w h
    skip
    exact this
  by_cases k15 : k = 87
  · subst k15
    have := operW_any pl c d m le sk x y z p q f hm w h
    skip
    exact this
  by_cases k16 : k = 84
  · subst k16
    have := operT_any pl c d m le sk x y z p q f hm w h
    skip
    exact this
  have e : opT pl (nearM pl c) y z p k = [k] := by
    unfold opT
    rw [if_neg k1, if_neg k2, if_neg k3, if_neg k4, if_neg k5, if_neg k6, if_neg k7, if_neg k8, if_neg k9, if_neg k10, if_neg k11, if_neg k12, if_neg k13, if_neg k14, if_neg k15, if_neg k16]
  rw [e, ← sy_sb pl d m [k] (by simpa using hk)]
  exact operZ_any pl c d m le sk x y z p q f k hk (by simp only [List.mem_cons, List.not_mem_nil, or_false, not_or]; omega) w
end Go.Proofs.YtgdpafldhmchpaaDoor
