/- Layer 9 (text): the document's own: small lemmas. -/
import Derived.Test.YtgdpafldhmchpaaDoorTextRefC
import Derived.Test.YtgdpafldhmchpaaDoorTextFill
import Derived.Deep.RegionHeld3
import Derived.Deep.DeepCutAuto
namespace Go.Proofs.YtgdpafldhmchpaaDoor
open Go.RowKit
set_option linter.unusedVariables false
set_option linter.unusedSimpArgs false

theorem sy_size (pl d m : Int) (l : List Nat) : (sy pl d m l).size ≤ 8 * l.length := by
  unfold sy
  rw [la_size]
  exact say_le pl d m l
theorem pairT_le (pl k : Int) (l : List Nat) (h : l.length ≤ 8) : (pairT pl k l).length ≤ 8 := by
  unfold pairT
  split
  · show 2 ≤ 8
    omega
  · refine pick_le _ (fun t ht => ?_) k
    simp at ht
    rcases ht with rfl | rfl | rfl | rfl
    · simp
    · simp
    · simp
    · exact h
theorem regT_le (pl : Int) (n : Bool) (k : Int) : (regT pl n k).length ≤ 10 := by
  have h := pick_le regN (by decide) k
  have hx : (ixT pl).length = 2 := rfl
  unfold regT
  split
  · simp
  · split
    · rw [List.length_append]; omega
    · omega
theorem keep6r {w w' : World} {B : Nat} {v0 v1 v2 v3 v4 v5 : Value} (k : Below w.heap.size w w')
    (h : w.cell? ⟨B, 0, none⟩ = some v0 ∧ w.cell? ⟨B, 1, none⟩ = some v1 ∧ w.cell? ⟨B, 2, none⟩ = some v2 ∧ w.cell? ⟨B, 3, none⟩ = some v3 ∧ w.cell? ⟨B, 4, none⟩ = some v4 ∧ w.cell? ⟨B, 5, none⟩ = some v5) :
    w'.cell? ⟨B, 0, none⟩ = some v0 ∧ w'.cell? ⟨B, 1, none⟩ = some v1 ∧ w'.cell? ⟨B, 2, none⟩ = some v2 ∧ w'.cell? ⟨B, 3, none⟩ = some v3 ∧ w'.cell? ⟨B, 4, none⟩ = some v4 ∧ w'.cell? ⟨B, 5, none⟩ = some v5 :=
  ⟨cell_kept h.1 k, cell_kept h.2.1 k, cell_kept h.2.2.1 k, cell_kept h.2.2.2.1 k, cell_kept h.2.2.2.2.1 k, cell_kept h.2.2.2.2.2 k⟩
/-- a register's name, of the plane Plain -/
theorem rreg0_any (k : Int) (hk : 0 ≤ k ∧ k ≤ 7) (w : World) :
    Calls Tryd.prog 22 #[opV 0 0 0 0 0 0, .int .i64 k] w fun e w' => e = .returned (.string (sb (pick regN k))) ∧ Below w.heap.size w w' := by
  have h := rreg_any 0 0 0 0 0 0 k ⟨by omega, by omega⟩ ⟨by omega, by omega⟩ hk w
  rw [show regT 0 (nearM 0 0) k = pick regN k from rfl, ← sy_sb 0 0 0 _ (pick_lt _ (by decide) _)] at h
  exact h
theorem rpair0_any (k : Int) (hk : 0 ≤ k ∧ k ≤ 3) (w : World) :
    Calls Tryd.prog 42 #[opV 0 0 0 0 0 0, .int .i64 k, .string ⟨#[115, 112]⟩] w fun e w' => e = .returned (.string (sb (pick pairN k))) ∧ Below w.heap.size w w' := by
  have h := rpairSp_any 0 0 0 0 0 0 k hk w
  rw [show pairT 0 k [115, 112] = pick pairN k from rfl, ← sy_sb 0 0 0 _ (pick_lt _ (by decide) _)] at h
  exact h
theorem pick_sy (pl d m : Int) (l : List (List Nat)) (h : ∀ t ∈ l, ∀ k ∈ t, k < 256) (i : Int) : sy pl d m (pick l i) = sb (pick l i) := (sy_sb pl d m _ (pick_lt l h i)).symm
theorem pick_size (l : List (List Nat)) (h : ∀ t ∈ l, t.length ≤ 8) (i : Int) : (sb (pick l i)).size ≤ 8 := by rw [sb_size]; exact pick_le l h i
theorem row6c {w : World} {g : Nat} {t : TypeId} {v0 v1 v2 v3 v4 v5 : Value} (h : Row w g t #[v0, v1, v2, v3, v4, v5]) :
    w.cell? ⟨g, 0, none⟩ = some v0 ∧ w.cell? ⟨g, 1, none⟩ = some v1 ∧ w.cell? ⟨g, 2, none⟩ = some v2 ∧ w.cell? ⟨g, 3, none⟩ = some v3 ∧ w.cell? ⟨g, 4, none⟩ = some v4 ∧ w.cell? ⟨g, 5, none⟩ = some v5 :=
  ⟨h.cell 0, h.cell 1, h.cell 2, h.cell 3, h.cell 4, h.cell 5⟩
end Go.Proofs.YtgdpafldhmchpaaDoor
