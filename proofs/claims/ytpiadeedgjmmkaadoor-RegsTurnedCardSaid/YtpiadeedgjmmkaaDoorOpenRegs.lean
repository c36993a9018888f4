/- Opening an argument that is registers by value (twenty fields of one cell). Nothing of the program's functions. Written by tools/regs-laws.py. -/
import Derived.WalkKit
import Derived.ProofKit
import Derived.OpenShut
import Derived.ChangeArms
import Derived.Deep.Fields
import Derived.Test.YtpiadeedgjmmkaaDoorRegsMath
namespace Go.Proofs.YtpiadeedgjmmkaaDoor
open Go.ChangeShapes Go.WideShapes Go.ChangeAt Go.RowKit Go.Deep
set_option linter.unusedVariables false

theorem list20 {α : Type} (l : List α) (h : l.length = 20) : ∃ a0 a1 a2 a3 a4 a5 a6 a7 a8 a9 a10 a11 a12 a13 a14 a15 a16 a17 a18 a19, l = [a0, a1, a2, a3, a4, a5, a6, a7, a8, a9, a10, a11, a12, a13, a14, a15, a16, a17, a18, a19] := by
  match l, h with
  | [a0, a1, a2, a3, a4, a5, a6, a7, a8, a9, a10, a11, a12, a13, a14, a15, a16, a17, a18, a19], _ => exact ⟨a0, a1, a2, a3, a4, a5, a6, a7, a8, a9, a10, a11, a12, a13, a14, a15, a16, a17, a18, a19, rfl⟩
set_option maxRecDepth 20000 in
theorem open_regs {H : Type} {enc : TypeId × Value → H} {P : Program} {w : World} {r : Reach} {b0 base : Nat} {sp : Nat → Bool} {held : Bool} {t : TypeId} {f0 f1 f2 f3 f4 f5 f6 f7 f8 f9 f10 f11 f12 f13 f14 f15 f16 f17 f18 f19 : Field} {v : Value} {d : DataW H} {ps : List MemPlace}
    (hs : P.underlying t = some (.struct #[f0, f1, f2, f3, f4, f5, f6, f7, f8, f9, f10, f11, f12, f13, f14, f15, f16, f17, f18, f19])) (hone : oneCellFields P #[f0, f1, f2, f3, f4, f5, f6, f7, f8, f9, f10, f11, f12, f13, f14, f15, f16, f17, f18, f19] = true) (hC : P.cellsOf t = 20)
    (u0 : P.underlying f0.type = some (.int .u16)) (u1 : P.underlying f1.type = some (.int .u16)) (u2 : P.underlying f2.type = some (.int .u16)) (u3 : P.underlying f3.type = some (.int .u16)) (u4 : P.underlying f4.type = some (.int .u16)) (u5 : P.underlying f5.type = some (.int .u16)) (u6 : P.underlying f6.type = some (.int .u16)) (u7 : P.underlying f7.type = some (.int .u16)) (u8 : P.underlying f8.type = some (.int .u16)) (u9 : P.underlying f9.type = some (.int .u16)) (u10 : P.underlying f10.type = some (.int .u16)) (u11 : P.underlying f11.type = some (.int .u16)) (u12 : P.underlying f12.type = some (.int .u16)) (u13 : P.underlying f13.type = some (.int .u8)) (u14 : P.underlying f14.type = some (.int .u8)) (u15 : P.underlying f15.type = some .bool) (u16 : P.underlying f16.type = some .bool) (u17 : P.underlying f17.type = some .bool) (u18 : P.underlying f18.type = some .bool) (u19 : P.underlying f19.type = some (.int .i64))
    (hv : Value.okWide P w r b0 t v) (h : DataW.Trod enc P w base sp held t v d ps) : ∃ g : Rg, v = regsV g ∧ RgB g := by
  obtain ⟨cs, rfl, hsz⟩ := okWide_struct hs hv
  obtain ⟨fuel, hf⟩ := h
  obtain ⟨xs, n, -, -, -, hlen, hg⟩ := DataW.trod_struct hs hf
  rw [hC] at hsz
  have hlen : xs.length = 20 := hlen
  have cell : ∀ (k : Nat) (f : Field), #[f0, f1, f2, f3, f4, f5, f6, f7, f8, f9, f10, f11, f12, f13, f14, f15, f16, f17, f18, f19][k]? = some f → ∃ u z, cs[k]? = some u ∧ DataW.trod enc P w base sp held n f.type [u] = some z := by
    intro k f hk
    obtain ⟨ho, h1⟩ := hone_of hone k f hk
    have hkl : k < 20 := (Array.getElem?_eq_some_iff.1 hk).1
    have h2 := hg k f hk
    rw [ho, h1] at h2
    have e1 : ((Value.agg cs).cells.toList.drop k).take 1 = [cs[k]'(by omega)] := by
      have e : (Value.agg cs).cells.toList = cs.toList := rfl
      rw [e, List.drop_eq_getElem_cons (by simp; omega)]
      simp
    rw [e1, List.getElem?_eq_getElem (by omega)] at h2
    exact ⟨_, _, Array.getElem?_eq_getElem (by omega), h2⟩
  have one : ∀ (k : Nat) (f : Field) (K : IntKind), #[f0, f1, f2, f3, f4, f5, f6, f7, f8, f9, f10, f11, f12, f13, f14, f15, f16, f17, f18, f19][k]? = some f → P.underlying f.type = some (.int K) → ∃ z, cs[k]? = some (.int K z) ∧ (Lit.int K z).wf = true := by
    intro k f K hk hu
    obtain ⟨u, z, hc, h2⟩ := cell k f hk
    obtain ⟨z, e2, -, hw⟩ := DataW.trod_int hu h2
    injection e2 with e3
    exact ⟨z, by rw [hc, e3], hw⟩
  have oneB : ∀ (k : Nat) (f : Field), #[f0, f1, f2, f3, f4, f5, f6, f7, f8, f9, f10, f11, f12, f13, f14, f15, f16, f17, f18, f19][k]? = some f → P.underlying f.type = some .bool → ∃ z, cs[k]? = some (.bool z) := by
    intro k f hk hu
    obtain ⟨u, z, hc, h2⟩ := cell k f hk
    obtain ⟨z, e2, -⟩ := DataW.trod_bool hu h2
    injection e2 with e3
    exact ⟨z, by rw [hc, e3]⟩
  clear hg hlen hf hone
  obtain ⟨z0, e0, w0⟩ := one 0 f0 .u16 rfl u0
  have b0 := bounds_u16 w0
  obtain ⟨z1, e1, w1⟩ := one 1 f1 .u16 rfl u1
  have b1 := bounds_u16 w1
  obtain ⟨z2, e2, w2⟩ := one 2 f2 .u16 rfl u2
  have b2 := bounds_u16 w2
  obtain ⟨z3, e3, w3⟩ := one 3 f3 .u16 rfl u3
  have b3 := bounds_u16 w3
  obtain ⟨z4, e4, w4⟩ := one 4 f4 .u16 rfl u4
  have b4 := bounds_u16 w4
  obtain ⟨z5, e5, w5⟩ := one 5 f5 .u16 rfl u5
  have b5 := bounds_u16 w5
  obtain ⟨z6, e6, w6⟩ := one 6 f6 .u16 rfl u6
  have b6 := bounds_u16 w6
  obtain ⟨z7, e7, w7⟩ := one 7 f7 .u16 rfl u7
  have b7 := bounds_u16 w7
  obtain ⟨z8, e8, w8⟩ := one 8 f8 .u16 rfl u8
  have b8 := bounds_u16 w8
  obtain ⟨z9, e9, w9⟩ := one 9 f9 .u16 rfl u9
  have b9 := bounds_u16 w9
  obtain ⟨z10, e10, w10⟩ := one 10 f10 .u16 rfl u10
  have b10 := bounds_u16 w10
  obtain ⟨z11, e11, w11⟩ := one 11 f11 .u16 rfl u11
  have b11 := bounds_u16 w11
  obtain ⟨z12, e12, w12⟩ := one 12 f12 .u16 rfl u12
  have b12 := bounds_u16 w12
  obtain ⟨z13, e13, w13⟩ := one 13 f13 .u8 rfl u13
  have b13 := bounds_u8 w13
  obtain ⟨z14, e14, w14⟩ := one 14 f14 .u8 rfl u14
  have b14 := bounds_u8 w14
  obtain ⟨z15, e15⟩ := oneB 15 f15 rfl u15
  obtain ⟨z16, e16⟩ := oneB 16 f16 rfl u16
  obtain ⟨z17, e17⟩ := oneB 17 f17 rfl u17
  obtain ⟨z18, e18⟩ := oneB 18 f18 rfl u18
  obtain ⟨z19, e19, w19⟩ := one 19 f19 .i64 rfl u19
  have b19 := bounds_i64 w19
  clear one oneB cell
  refine ⟨⟨z0, z1, z2, z3, z4, z5, z6, z7, z8, z9, z10, z11, z12, z13, z14, z15, z16, z17, z18, z19⟩, ?_, ⟨b0, b1, b2, b3, b4, b5, b6, b7, b8, b9, b10, b11, b12, b13, b14, b19⟩⟩
  obtain ⟨l⟩ := cs
  obtain ⟨a0, a1, a2, a3, a4, a5, a6, a7, a8, a9, a10, a11, a12, a13, a14, a15, a16, a17, a18, a19, rfl⟩ := list20 l hsz
  simp only [List.getElem?_toArray, List.getElem?_cons_zero, List.getElem?_cons_succ, Option.some.injEq] at e0 e1 e2 e3 e4 e5 e6 e7 e8 e9 e10 e11 e12 e13 e14 e15 e16 e17 e18 e19
  rw [e0, e1, e2, e3, e4, e5, e6, e7, e8, e9, e10, e11, e12, e13, e14, e15, e16, e17, e18, e19]
end Go.Proofs.YtpiadeedgjmmkaaDoor
