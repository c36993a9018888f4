/- Opening an argument that is an instruction by value. Nothing of the program's functions. -/
import Derived.WalkKit
import Derived.ProofKit
import Derived.OpenShut
import Derived.ChangeArms
import Derived.Deep.Fields
import Derived.Test.YtlmeekaemhghgaaDoorFlagsMath
import Derived.Test.YtlmeekaemhghgaaDoorDecodeForm
namespace Go.Proofs.YtlmeekaemhghgaaDoor
open Go.ChangeShapes Go.WideShapes Go.ChangeAt Go.RowKit Go.Deep
set_option linter.unusedVariables false

theorem open_op {H : Type} {enc : TypeId × Value → H} {P : Program} {w : World} {r : Reach} {b0 base : Nat} {sp : Nat → Bool} {held : Bool} {t : TypeId} {f0 f1 f2 f3 f4 f5 : Field} {v : Value} {d : DataW H} {ps : List MemPlace}
    (hs : P.underlying t = some (.struct #[f0, f1, f2, f3, f4, f5])) (hone : oneCellFields P #[f0, f1, f2, f3, f4, f5] = true) (hC : P.cellsOf t = 6)
    (u0 : P.underlying f0.type = some (.int .i64)) (u1 : P.underlying f1.type = some (.int .u8)) (u2 : P.underlying f2.type = some (.int .u8)) (u3 : P.underlying f3.type = some (.int .u16)) (u4 : P.underlying f4.type = some (.int .i64)) (u5 : P.underlying f5.type = some (.int .i64))
    (hv : Value.okWide P w r b0 t v) (h : DataW.Trod enc P w base sp held t v d ps) :
    ∃ p c e i le sk : Int, v = opV p c e i le sk ∧ (B8 c ∧ B8 e ∧ 0 ≤ i ∧ i ≤ 65535) := by
  obtain ⟨cs, rfl, hsz⟩ := okWide_struct hs hv
  obtain ⟨fuel, hf⟩ := h
  obtain ⟨xs, n, -, -, -, hlen, hg⟩ := DataW.trod_struct hs hf
  rw [hC] at hsz
  have hlen : xs.length = 6 := hlen
  have one : ∀ (k : Nat) (f : Field) (K : IntKind), #[f0, f1, f2, f3, f4, f5][k]? = some f → P.underlying f.type = some (.int K) → ∃ z, cs[k]? = some (.int K z) ∧ (Lit.int K z).wf = true := by
    intro k f K hk hu
    obtain ⟨ho, h1⟩ := hone_of hone k f hk
    have hkl : k < 6 := (Array.getElem?_eq_some_iff.1 hk).1
    have h2 := hg k f hk
    rw [ho, h1] at h2
    have e1 : ((Value.agg cs).cells.toList.drop k).take 1 = [cs[k]'(by omega)] := by
      have e : (Value.agg cs).cells.toList = cs.toList := rfl
      rw [e, List.drop_eq_getElem_cons (by simp; omega)]
      simp
    rw [e1, List.getElem?_eq_getElem (by omega)] at h2
    obtain ⟨z, e2, -, hw⟩ := DataW.trod_int hu h2
    injection e2 with e3
    exact ⟨z, by rw [Array.getElem?_eq_getElem (by omega), e3], hw⟩
  obtain ⟨z0, e0, -⟩ := one 0 f0 .i64 rfl u0
  obtain ⟨z1, e1, w1⟩ := one 1 f1 .u8 rfl u1
  obtain ⟨z2, e2, w2⟩ := one 2 f2 .u8 rfl u2
  obtain ⟨z3, e3, w3⟩ := one 3 f3 .u16 rfl u3
  obtain ⟨z4, e4, -⟩ := one 4 f4 .i64 rfl u4
  obtain ⟨z5, e5, -⟩ := one 5 f5 .i64 rfl u5
  have b1 := bounds_u8 w1
  have b2 := bounds_u8 w2
  have b3 := bounds_u16 w3
  refine ⟨z0, z1, z2, z3, z4, z5, ?_, ⟨by omega, by omega⟩, ⟨by omega, by omega⟩, by omega, by omega⟩
  obtain ⟨l⟩ := cs
  match l, hsz with
  | [a0, a1, a2, a3, a4, a5], _ =>
    simp at e0 e1 e2 e3 e4 e5
    rw [e0, e1, e2, e3, e4, e5]
end Go.Proofs.YtlmeekaemhghgaaDoor
