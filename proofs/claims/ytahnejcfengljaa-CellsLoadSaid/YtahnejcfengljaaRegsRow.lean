/- A whole struct stored into a block that is known whole. Nothing of the program. -/
import Derived.Test.YtahnejcfengljaaWhole
import Derived.Lib.Hide
namespace Go.Proofs.Ytahnejcfengljaa
open Go.RowKit
set_option linter.unusedVariables false

theorem Row.setOver {w : World} {g : Nat} {t : TypeId} : ∀ (vs : List Value) (o : Nat) {w : World} {cs : Array Value}, Row w g t cs → Row (w.setCells g o vs) g t (ovr cs o vs)
  | [], _, _, _, h => h
  | v :: r, o, _, _, h => Row.setOver (w := w) r (o + 1) (h.set o v)
theorem Row.setAll {w : World} {g : Nat} {t : TypeId} {cs vs : Array Value} (h : Row w g t cs) (hs : cs.size = vs.size) : Row (w.setCells g 0 vs.toList) g t vs := by
  have := Row.setOver (w := w) vs.toList 0 h
  rwa [ovr_all cs vs hs] at this
theorem Row.setFar {g b : Nat} {t : TypeId} {cs : Array Value} (hb : g ≠ b) : ∀ (vs : List Value) (o : Nat) {w : World}, Row w g t cs → Row (w.setCells b o vs) g t cs
  | [], _, _, h => h
  | v :: r, o, _, h => Row.setFar hb r (o + 1) (h.far (p := ⟨b, o, none⟩) hb v)
section
variable {P : Program}
/-- at the list of a plain region's operations: a store into a block known whole -/
theorem wpList_store_row {ops : Array Oper} {rest : List Oper} {op : Oper} {a : Act} {w : World} {Q : Exit → Act → World → Prop} (hgd : op.guard = none) (ty : TypeId) (x y : Operand) (ho : op.op = .store ty x y)
    (g : Nat) (u : TypeId) (cs vs : Array Value) (hx : a.eval x = .pointer (some ⟨g, 0, none⟩)) (hy : a.eval y = .agg vs) (hr : Row w g u cs) (h : cs.size = vs.size) (hi : (P.info? ty).map (·.size) = some vs.size) (h1 : vs.toList.all (·.oneCell') = true)
    (hK : wpList P ops Q rest (a.put op.dst undef) (w.setCells g 0 vs.toList)) : wpList P ops Q (op :: rest) a w :=
  wpList_store_mid hgd ty x y ho g 0 vs hx hy (by rw [← h]; exact hr.there) hi (by rw [← Array.all_toList]; exact h1) hK
end
end Go.Proofs.Ytahnejcfengljaa
