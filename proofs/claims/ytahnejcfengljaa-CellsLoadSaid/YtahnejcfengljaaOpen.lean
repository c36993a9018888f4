/- Opening arguments that are arrays by value. Nothing of the program. -/
import Derived.WalkKit
import Derived.ProofKit
import Derived.OpenShut
namespace Go.Proofs.Ytahnejcfengljaa
open Go.ChangeShapes Go.WideShapes Go.ChangeAt Go.RowKit
set_option linter.unusedVariables false

theorem okWide_array {P : Program} {w : World} {r : Reach} {base : Nat} {t e : TypeId} {n : Nat} {v : Value} (ht : P.underlying t = some (.array n e)) (h : Value.okWide P w r base t v) : ∃ cs, v = .agg cs ∧ cs.size = P.cellsOf t := by
  unfold Value.okWide at h
  rw [ht] at h
  obtain ⟨cs, h1, h2, _⟩ := h
  exact ⟨cs, h1, h2⟩
theorem map_bool_of : ∀ (cs : List Value), (∀ v ∈ cs, ∃ b, v = Value.bool b) → ∃ l : List Bool, l.length = cs.length ∧ cs = l.map Value.bool
  | [], _ => ⟨[], rfl, rfl⟩
  | c :: cs, h => by
    obtain ⟨b, rfl⟩ := h c (by simp)
    obtain ⟨l, hl, e⟩ := map_bool_of cs (fun v hv => h v (by simp [hv]))
    exact ⟨b :: l, by simp [hl], by simp [← e]⟩
theorem open_arr_bool {H : Type} {enc : TypeId × Value → H} {P : Program} {w : World} {r : Reach} {b0 base : Nat} {sp : Nat → Bool} {held : Bool} {t e : TypeId} {n : Nat} {v : Value} {d : DataW H} {ps : List MemPlace}
    (ht : P.underlying t = some (.array n e)) (he : P.underlying e = some .bool) (hc : P.cellsOf e = 1) (hn : P.cellsOf t = n) (hv : Value.okWide P w r b0 t v) (h : DataW.Trod enc P w base sp held t v d ps) :
    ∃ l : List Bool, l.length = n ∧ v = .agg (l.map Value.bool).toArray := by
  obtain ⟨cs, rfl, hsz⟩ := okWide_array ht hv
  obtain ⟨fuel, hf⟩ := h
  obtain ⟨xs, m, _, _, hlen, hxl, hi⟩ := DataW.trod_array ht hf
  have hcs : (Value.agg cs).cells.toList = cs.toList := by simp [Value.cells]
  rw [hcs] at hi hlen
  have key : ∀ u ∈ cs.toList, ∃ b, u = Value.bool b := by
    intro u hu
    obtain ⟨i, hi1, hi2⟩ := List.getElem_of_mem hu
    have hin : i < n := by rw [hn] at hlen; omega
    have h1 := hi i hin
    rw [hc, Nat.mul_one, List.drop_eq_getElem_cons hi1] at h1
    simp only [List.take_succ_cons, List.take_zero, hi2] at h1
    rw [List.getElem?_eq_getElem (by omega)] at h1
    obtain ⟨b, hb, _⟩ := DataW.trod_bool he h1
    exact ⟨b, by simpa using hb⟩
  obtain ⟨l, hl, e2⟩ := map_bool_of cs.toList key
  refine ⟨l, by rw [hl, hlen, hn], ?_⟩
  rw [← e2]
theorem list8 {α : Type} (l : List α) (h : l.length = 8) : ∃ a b c d e f g i, l = [a, b, c, d, e, f, g, i] := by
  match l, h with
  | [a, b, c, d, e, f, g, i], _ => exact ⟨a, b, c, d, e, f, g, i, rfl⟩
end Go.Proofs.Ytahnejcfengljaa
