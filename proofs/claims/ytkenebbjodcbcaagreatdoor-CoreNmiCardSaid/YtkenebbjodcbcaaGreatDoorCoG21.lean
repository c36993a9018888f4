/- Contracts and facts that the claim's proof wants (several texts in one). -/
import Derived.Deep.Grids
import Derived.Deep.Slices
import Derived.LaidLaws
import Derived.ChangeArms
import Derived.OpenShut
import Derived.FnData
import Derived.Test.YtkenebbjodcbcaaGreatDoorCoG1
import Derived.Test.YtkenebbjodcbcaaGreatDoorCoG17
import Derived.Test.YtkenebbjodcbcaaGreatDoorCoG18
import Derived.Test.YtkenebbjodcbcaaGreatDoorCoG20
namespace Go.Proofs.YtkenebbjodcbcaaGreatDoor
open Go.RowKit
set_option linter.unusedVariables false
set_option linter.unusedSimpArgs false
set_option maxRecDepth 20000
set_option maxHeartbeats 20000000
section
open Go.ChangeShapes Go.WideShapes Go.ChangeAt Go.RowKit Go.Deep
theorem open_cycle1 {H : Type} {enc : TypeId × Value → H} {P : Program} {w : World} {base : Nat} {sp : Nat → Bool} {held : Bool} {t : TypeId} {f0 f1 f2 f3 : Field} {l : List Value} {fuel : Nat} {x : DataW H × List MemPlace}
    (hs : P.underlying t = some (.struct #[f0, f1, f2, f3])) (hone : oneCellFields P #[f0, f1, f2, f3] = true) (hC : P.cellsOf t = 4)
    (u0 : P.underlying f0.type = some (.int .i64)) (u1 : P.underlying f1.type = some (.int .u16)) (u2 : P.underlying f2.type = some (.int .u8)) (u3 : P.underlying f3.type = some (.int .i64))
    (hf : DataW.trod enc P w base sp held fuel t l = some x) : ∃ c : Cy, l = (cyC c).toList := by
  obtain ⟨xs, n, -, -, hsz, hlen, hg⟩ := DataW.trod_struct hs hf
  rw [hC] at hsz
  have hlen : xs.length = 4 := hlen
  have one : ∀ (k : Nat) (f : Field) (K : IntKind), #[f0, f1, f2, f3][k]? = some f → P.underlying f.type = some (.int K) → ∃ z, l[k]? = some (.int K z) := by
    intro k f K hk hu
    obtain ⟨ho, h1⟩ := hone_of hone k f hk
    have hkl : k < 4 := (Array.getElem?_eq_some_iff.1 hk).1
    have h2 := hg k f hk
    rw [ho, h1] at h2
    have e1 : (l.drop k).take 1 = [l[k]'(by omega)] := by
      rw [List.drop_eq_getElem_cons (by omega)]
      rfl
    rw [e1, List.getElem?_eq_getElem (by omega)] at h2
    obtain ⟨z, e2, -, hw⟩ := DataW.trod_int hu h2
    injection e2 with e3
    exact ⟨z, by rw [List.getElem?_eq_getElem (by omega), e3]⟩
  obtain ⟨z0, e0⟩ := one 0 f0 .i64 rfl u0
  obtain ⟨z1, e1⟩ := one 1 f1 .u16 rfl u1
  obtain ⟨z2, e2⟩ := one 2 f2 .u8 rfl u2
  obtain ⟨z3, e3⟩ := one 3 f3 .i64 rfl u3
  refine ⟨⟨z0, z1, z2, z3⟩, ?_⟩
  match l, hsz with
  | [a0, a1, a2, a3], _ =>
    simp at e0 e1 e2 e3
    rw [e0, e1, e2, e3]
end
section
open Go.ChangeShapes Go.WideShapes Go.ChangeAt Go.RowKit Go.Deep
theorem one_cell {l : List Value} {k : Nat} (h : k < l.length) : (l.drop k).take 1 = [l[k]] := by rw [List.drop_eq_getElem_cons h]; rfl
theorem open_lines1 {H : Type} {enc : TypeId × Value → H} {P : Program} {w : World} {base : Nat} {sp : Nat → Bool} {held : Bool} {t : TypeId} {f0 f1 f2 f3 f4 : Field} {l : List Value} {fuel : Nat} {x : DataW H × List MemPlace}
    (hs : P.underlying t = some (.struct #[f0, f1, f2, f3, f4])) (hone : oneCellFields P #[f0, f1, f2, f3, f4] = true) (hC : P.cellsOf t = 5)
    (u0 : P.underlying f0.type = some .bool) (u1 : P.underlying f1.type = some .bool) (u2 : P.underlying f2.type = some .bool) (u3 : P.underlying f3.type = some .bool) (u4 : P.underlying f4.type = some .bool)
    (hf : DataW.trod enc P w base sp held fuel t l = some x) : ∃ c : LnT, l = (lnC c).toList := by
  obtain ⟨xs, n, -, -, hsz, hlen, hg⟩ := DataW.trod_struct hs hf
  rw [hC] at hsz
  have hlen : xs.length = 5 := hlen
  have one : ∀ (k : Nat) (f : Field), #[f0, f1, f2, f3, f4][k]? = some f → P.underlying f.type = some .bool → ∃ z, l[k]? = some (.bool z) := by
    intro k f hk hu
    obtain ⟨ho, h1⟩ := hone_of hone k f hk
    have hkl : k < 5 := (Array.getElem?_eq_some_iff.1 hk).1
    have h2 := hg k f hk
    rw [ho, h1, one_cell (by omega), List.getElem?_eq_getElem (by omega)] at h2
    obtain ⟨z, e2, -⟩ := DataW.trod_bool hu h2
    injection e2 with e3
    exact ⟨z, by rw [List.getElem?_eq_getElem (by omega), e3]⟩
  obtain ⟨z0, e0⟩ := one 0 f0 rfl u0
  obtain ⟨z1, e1⟩ := one 1 f1 rfl u1
  obtain ⟨z2, e2⟩ := one 2 f2 rfl u2
  obtain ⟨z3, e3⟩ := one 3 f3 rfl u3
  obtain ⟨z4, e4⟩ := one 4 f4 rfl u4
  refine ⟨⟨z0, z1, z2, z3, z4⟩, ?_⟩
  match l, hsz with
  | [a0, a1, a2, a3, a4], _ =>
    simp at e0 e1 e2 e3 e4
    rw [e0, e1, e2, e3, e4]
theorem open_lines {H : Type} {enc : TypeId × Value → H} {P : Program} {w : World} {r : Reach} {b0 base : Nat} {sp : Nat → Bool} {held : Bool} {t : TypeId} {f0 f1 f2 f3 f4 : Field} {v : Value} {d : DataW H} {ps : List MemPlace}
    (hs : P.underlying t = some (.struct #[f0, f1, f2, f3, f4])) (hone : oneCellFields P #[f0, f1, f2, f3, f4] = true) (hC : P.cellsOf t = 5)
    (u0 : P.underlying f0.type = some .bool) (u1 : P.underlying f1.type = some .bool) (u2 : P.underlying f2.type = some .bool) (u3 : P.underlying f3.type = some .bool) (u4 : P.underlying f4.type = some .bool)
    (hv : Value.okWide P w r b0 t v) (h : DataW.Trod enc P w base sp held t v d ps) : ∃ c : LnT, v = lnV c := by
  obtain ⟨cs, rfl, hsz⟩ := okWide_struct hs hv
  obtain ⟨fuel, hf⟩ := h
  obtain ⟨c, e⟩ := open_lines1 hs hone hC u0 u1 u2 u3 u4 hf
  refine ⟨c, ?_⟩
  have e : cs.toList = (lnC c).toList := e
  show Value.agg cs = .agg _
  rw [← Array.toArray_toList (xs := cs), e]
theorem open_linesS {H : Type} {enc : TypeId × Value → H} {P : Program} {w : World} {r : Reach} {b0 base : Nat} {held : Bool} {t e : TypeId} {f0 f1 f2 f3 f4 : Field} {v : Value} {d : DataW H} {ps : List MemPlace}
    (ht : P.underlying t = some (.slice e)) (hs : P.underlying e = some (.struct #[f0, f1, f2, f3, f4])) (hone : oneCellFields P #[f0, f1, f2, f3, f4] = true) (hC : P.cellsOf e = 5)
    (u0 : P.underlying f0.type = some .bool) (u1 : P.underlying f1.type = some .bool) (u2 : P.underlying f2.type = some .bool) (u3 : P.underlying f3.type = some .bool) (u4 : P.underlying f4.type = some .bool)
    (hv : Value.okWide P w r b0 t v) (h : DataW.Trod enc P w base (fun _ => true) held t v d ps) :
    ∃ (A : Option Addr) (cap : Nat) (xs : List LnT), v = .slice A xs.length cap ∧ xs.length ≤ cap ∧ cap ≤ maxLen ∧ LnsIn w w.heap.size A xs ∧ (A = none → cap = 0) := by
  obtain ⟨a, len, cap, rfl⟩ := okWide_slice ht hv
  obtain ⟨fuel, hf⟩ := h
  rcases open_slice ht hf with ⟨e1, -⟩ | ⟨ad, len', cap', m, n, D, Pl, e1, hb, hle, hm, hmm, -, hx⟩
  · have e2 : Value.slice a len cap = .slice none 0 0 := by
      have h : [Value.slice a len cap] = [.slice none 0 0] := e1
      injection h
    exact ⟨none, 0, [], e2, Nat.le_refl _, Nat.zero_le _, fun k hk => by simp at hk, fun _ => rfl⟩
  · have e2 : Value.slice a len cap = .slice (some ad) len' cap' := by
      have h : [Value.slice a len cap] = [.slice (some ad) len' cap'] := e1
      injection h
    have hlm : len' ≤ m := by rw [hmm]; split <;> omega
    have each : ∀ i, i < m → ∃ q : LnT, w.cell? (ad.add (i * 5)) = some (.bool q.wait) ∧ w.cell? (ad.add (i * 5 + 1)) = some (.bool q.bus) ∧ w.cell? (ad.add (i * 5 + 2)) = some (.bool q.irq) ∧ w.cell? (ad.add (i * 5 + 3)) = some (.bool q.nmi) ∧ w.cell? (ad.add (i * 5 + 4)) = some (.bool q.reset) := by
      intro i hi
      obtain ⟨cs', h1, h2⟩ := hx i hi
      rw [hC] at h1
      obtain ⟨_, hlen, hcell⟩ := World.cells?_some h1
      obtain ⟨q, rfl⟩ := open_lines1 hs hone hC u0 u1 u2 u3 u4 h2
      have g := fun j hj => hcell j hj
      have a0 : (ad.add (i * 5)).add 0 = ad.add (i * 5) := by unfold Addr.add; simp
      refine ⟨q, ?_, ?_, ?_, ?_, ?_⟩
      · have := g 0 (by omega); rw [a0] at this; exact this
      · have := g 1 (by omega); rw [add_more _ _ _ (by omega)] at this; exact this
      · have := g 2 (by omega); rw [add_more _ _ _ (by omega)] at this; exact this
      · have := g 3 (by omega); rw [add_more _ _ _ (by omega)] at this; exact this
      · have := g 4 (by omega); rw [add_more _ _ _ (by omega)] at this; exact this
    haveI : Inhabited LnT := ⟨zeroLn⟩
    obtain ⟨q, hq⟩ := choose_lt each
    refine ⟨some ad, cap', (List.range len').map q, by rw [List.length_map, List.length_range]; exact e2, by simpa using hle, hm, fun j hj => ?_, fun h => by cases h⟩
    have hj' : j < len' := by simpa using hj
    have e3 : ((List.range len').map q)[j] = q j := by simp
    rw [e3]
    have h5 := hq j (by omega)
    refine ⟨ad, rfl, ?_, h5⟩
    have := World.block_lt_of_cell? _ _ h5.1
    rwa [add_block] at this
theorem open_at1 {H : Type} {enc : TypeId × Value → H} {P : Program} {w : World} {base : Nat} {sp : Nat → Bool} {held : Bool} {t : TypeId} {q0 q1 q2 f0 f1 f2 f3 : Field} {l : List Value} {fuel : Nat} {x : DataW H × List MemPlace}
    (hs : P.underlying t = some (.struct #[q0, q1, q2])) (hq : (P.cellsOf t, q0.offset, q1.offset, q2.offset, P.cellsOf q0.type, P.cellsOf q1.type, P.cellsOf q2.type) = (6, 0, 4, 5, 4, 1, 1))
    (hr : P.underlying q0.type = some (.struct #[f0, f1, f2, f3])) (hone : oneCellFields P #[f0, f1, f2, f3] = true)
    (u0 : P.underlying f0.type = some (.int .i64)) (u1 : P.underlying f1.type = some (.int .u16)) (u2 : P.underlying f2.type = some (.int .u8)) (u3 : P.underlying f3.type = some (.int .i64)) (k1 : P.underlying q1.type = some (.int .i64)) (k2 : P.underlying q2.type = some (.int .i64))
    (hf : DataW.trod enc P w base sp held fuel t l = some x) : ∃ a : AtT, l = (atC a).toList := by
  simp only [Prod.mk.injEq] at hq
  obtain ⟨hC, o0, o1, o2, c0, c1, c2⟩ := hq
  obtain ⟨xs, n, -, -, hl, hlen, hg⟩ := DataW.trod_struct hs hf
  rw [hC] at hl
  have hlen : xs.length = 3 := hlen
  have t0 := hg 0 q0 rfl
  have t1 := hg 1 q1 rfl
  have t2 := hg 2 q2 rfl
  rw [o0, c0, List.getElem?_eq_getElem (by omega)] at t0
  rw [o1, c1, List.getElem?_eq_getElem (by omega), one_cell (by omega)] at t1
  rw [o2, c2, List.getElem?_eq_getElem (by omega), one_cell (by omega)] at t2
  obtain ⟨c, e0⟩ := open_cycle1 hr hone c0 u0 u1 u2 u3 t0
  obtain ⟨z1, e1, -, -⟩ := DataW.trod_int k1 t1
  obtain ⟨z2, e2, -, -⟩ := DataW.trod_int k2 t2
  injection e1 with e1
  injection e2 with e2
  refine ⟨⟨c, z1, z2⟩, ?_⟩
  have e3 : l = l.take 4 ++ [l[4]'(by omega), l[5]'(by omega)] := by
    conv => lhs; rw [← List.take_append_drop 4 l]
    rw [List.drop_eq_getElem_cons (by omega), List.drop_eq_getElem_cons (by omega), List.drop_of_length_le (by omega)]
  have e4 : l.take 4 = (cyC c).toList := by simpa using e0
  rw [e4, e1, e2] at e3
  rw [e3]
  rfl
theorem open_core {H : Type} {enc : TypeId × Value → H} {P : Program} {w : World} {r : Reach} {b0 base : Nat} {held : Bool} {t eb : TypeId} {p0 p1 p2 p3 p4 p5 p6 p7 q0 q1 q2 c0 c1 c2 c3 f0 f1 f2 f3 f4 f5 f6 f7 f8 f9 f10 f11 f12 f13 f14 f15 f16 f17 f18 f19 : Field} {v : Value} {d : DataW H} {ps : List MemPlace}
    (hs : P.underlying t = some (.struct #[p0, p1, p2, p3, p4, p5, p6, p7]))
    (hp : (P.cellsOf t, p0.offset, p1.offset, p2.offset, p3.offset, p4.offset, p5.offset, p6.offset, p7.offset) = (32, 0, 20, 21, 22, 28, 29, 30, 31))
    (hp' : (P.cellsOf p0.type, P.cellsOf p1.type, P.cellsOf p2.type, P.cellsOf p3.type, P.cellsOf p4.type, P.cellsOf p5.type, P.cellsOf p6.type, P.cellsOf p7.type) = (20, 1, 1, 6, 1, 1, 1, 1))
    (hr : P.underlying p0.type = some (.struct #[f0, f1, f2, f3, f4, f5, f6, f7, f8, f9, f10, f11, f12, f13, f14, f15, f16, f17, f18, f19])) (hone : oneCellFields P #[f0, f1, f2, f3, f4, f5, f6, f7, f8, f9, f10, f11, f12, f13, f14, f15, f16, f17, f18, f19] = true)
    (u0 : P.underlying f0.type = some (.int .u16)) (u1 : P.underlying f1.type = some (.int .u16)) (u2 : P.underlying f2.type = some (.int .u16)) (u3 : P.underlying f3.type = some (.int .u16)) (u4 : P.underlying f4.type = some (.int .u16)) (u5 : P.underlying f5.type = some (.int .u16)) (u6 : P.underlying f6.type = some (.int .u16)) (u7 : P.underlying f7.type = some (.int .u16)) (u8 : P.underlying f8.type = some (.int .u16)) (u9 : P.underlying f9.type = some (.int .u16)) (u10 : P.underlying f10.type = some (.int .u16)) (u11 : P.underlying f11.type = some (.int .u16)) (u12 : P.underlying f12.type = some (.int .u16)) (u13 : P.underlying f13.type = some (.int .u8)) (u14 : P.underlying f14.type = some (.int .u8)) (u15 : P.underlying f15.type = some .bool) (u16 : P.underlying f16.type = some .bool) (u17 : P.underlying f17.type = some .bool) (u18 : P.underlying f18.type = some .bool) (u19 : P.underlying f19.type = some (.int .i64))
    (m1 : P.underlying p1.type = some (.int .i64)) (m2 : P.underlying p2.type = some (.slice eb)) (heb : P.underlying eb = some (.int .u8)) (cb : P.cellsOf eb = 1)
    (ha : P.underlying p3.type = some (.struct #[q0, q1, q2])) (haq : (P.cellsOf p3.type, q0.offset, q1.offset, q2.offset, P.cellsOf q0.type, P.cellsOf q1.type, P.cellsOf q2.type) = (6, 0, 4, 5, 4, 1, 1))
    (har : P.underlying q0.type = some (.struct #[c0, c1, c2, c3])) (haone : oneCellFields P #[c0, c1, c2, c3] = true)
    (y0 : P.underlying c0.type = some (.int .i64)) (y1 : P.underlying c1.type = some (.int .u16)) (y2 : P.underlying c2.type = some (.int .u8)) (y3 : P.underlying c3.type = some (.int .i64)) (k1 : P.underlying q1.type = some (.int .i64)) (k2 : P.underlying q2.type = some (.int .i64))
    (m4 : P.underlying p4.type = some (.int .u8)) (m5 : P.underlying p5.type = some .bool) (m6 : P.underlying p6.type = some .bool) (m7 : P.underlying p7.type = some .bool)
    (hv : Value.okWide P w r b0 t v) (h : DataW.Trod enc P w base (fun _ => true) held t v d ps) :
    ∃ (c : CoT) (A : Option Addr) (cap : Nat), v = coV c (.slice A c.got.length cap) ∧ RgB c.r ∧ B8 c.b ∧ c.got.length ≤ cap ∧ cap ≤ maxLen ∧ Bytes8 c.got ∧ BytesIn w w.heap.size A c.got ∧ (A = none → cap = 0) := by
  simp only [Prod.mk.injEq] at hp hp'
  obtain ⟨hC, o0, o1, o2, o3, o4, o5, o6, o7⟩ := hp
  obtain ⟨s0, s1, s2, s3, s4, s5, s6, s7⟩ := hp'
  obtain ⟨cs, rfl, hsz⟩ := okWide_struct hs hv
  obtain ⟨fuel, hf⟩ := h
  obtain ⟨xs, n, -, -, hl, hlen, hg⟩ := DataW.trod_struct hs hf
  rw [hC] at hsz hl
  have hlen : xs.length = 8 := hlen
  obtain ⟨l, hcs⟩ : ∃ l, l = cs.toList := ⟨_, rfl⟩
  have hcl : (Value.agg cs).cells.toList = l := by rw [hcs]; rfl
  rw [hcl] at hg hl
  have t0 := hg 0 p0 rfl
  have t1 := hg 1 p1 rfl
  have t2 := hg 2 p2 rfl
  have t3 := hg 3 p3 rfl
  have t4 := hg 4 p4 rfl
  have t5 := hg 5 p5 rfl
  have t6 := hg 6 p6 rfl
  have t7 := hg 7 p7 rfl
  rw [o0, s0, List.getElem?_eq_getElem (by omega)] at t0
  rw [o1, s1, List.getElem?_eq_getElem (by omega), one_cell (by omega)] at t1
  rw [o2, s2, List.getElem?_eq_getElem (by omega), one_cell (by omega)] at t2
  rw [o3, s3, List.getElem?_eq_getElem (by omega)] at t3
  rw [o4, s4, List.getElem?_eq_getElem (by omega), one_cell (by omega)] at t4
  rw [o5, s5, List.getElem?_eq_getElem (by omega), one_cell (by omega)] at t5
  rw [o6, s6, List.getElem?_eq_getElem (by omega), one_cell (by omega)] at t6
  rw [o7, s7, List.getElem?_eq_getElem (by omega), one_cell (by omega)] at t7
  obtain ⟨g, e0, hgB⟩ := open_regs1 hr hone s0 u0 u1 u2 u3 u4 u5 u6 u7 u8 u9 u10 u11 u12 u13 u14 u15 u16 u17 u18 u19 t0
  obtain ⟨wh, e1, -, -⟩ := DataW.trod_int m1 t1
  obtain ⟨A, cap, got, e2, hy1, hy2, hy3, hy4, hy5⟩ := open_bytes1 m2 heb cb t2
  obtain ⟨a, e3⟩ := open_at1 ha haq har haone y0 y1 y2 y3 k1 k2 t3
  obtain ⟨b, e4, -, hbw⟩ := DataW.trod_int m4 t4
  obtain ⟨z5, e5, -⟩ := DataW.trod_bool m5 t5
  obtain ⟨z6, e6, -⟩ := DataW.trod_bool m6 t6
  obtain ⟨z7, e7, -⟩ := DataW.trod_bool m7 t7
  injection e1 with e1
  injection e4 with e4
  injection e5 with e5
  injection e6 with e6
  injection e7 with e7
  have hbb := bounds_u8 hbw
  have hb8 : B8 b := ⟨by omega, by omega⟩
  refine ⟨⟨g, wh, got, a, b, z5, z6, z7⟩, A, cap, ?_, hgB, hb8, hy1, hy2, hy3, hy4, hy5⟩
  have f2 : l.drop 28 = [l[28]'(by omega), l[29]'(by omega), l[30]'(by omega), l[31]'(by omega)] := by
    rw [List.drop_eq_getElem_cons (by omega), List.drop_eq_getElem_cons (by omega), List.drop_eq_getElem_cons (by omega), List.drop_eq_getElem_cons (by omega), List.drop_of_length_le (by omega)]
  have f1 : l.drop 22 = (l.drop 22).take 6 ++ l.drop 28 := by
    rw [show l.drop 28 = (l.drop 22).drop 6 by rw [List.drop_drop]]
    exact (List.take_append_drop 6 _).symm
  have f : l = l.take 20 ++ (l[20]'(by omega) :: l[21]'(by omega) :: l.drop 22) := by
    conv => lhs; rw [← List.take_append_drop 20 l]
    rw [List.drop_eq_getElem_cons (by omega), List.drop_eq_getElem_cons (by omega)]
  rw [f1, f2] at f
  have e0 : l.take 20 = (regsC g).toList := by simpa using e0
  rw [e0, e1, e2, e3, e4, e5, e6, e7] at f
  show Value.agg cs = .agg _
  rw [← Array.toArray_toList (xs := cs), ← hcs, f]
  rfl
end
def flats {H : Type} (F : TypeId → DataW H → Option (List Value)) : List (TypeId × Nat) → List (DataW H) → Nat → Option (List Value)
  | [], [], _ => some []
  | (e, o) :: L, d :: ds, cur => if o = cur then (F e d).bind fun a => (flats F L ds (cur + a.length)).map fun b => a ++ b else none
  | _, _, _ => none
def flat {H : Type} (P : Program) : Nat → TypeId → DataW H → Option (List Value)
  | 0, _, _ => none
  | k + 1, t, d => match P.underlying t, d with
    | some (.int q), .lit (.int q' n) => if q = q' then some [.int q n] else none
    | some .bool, .lit (.bool b) => some [.bool b]
    | some .string, .lit (.string bs) => some [.string ⟨bs.toArray⟩]
    | some (.array n e), .agg ds => (flats (flat P k) ((List.range n).map fun i => (e, i * P.cellsOf e)) ds 0).bind fun out => if out.length = P.cellsOf t then some out else none
    | some (.struct fs), .agg ds => (flats (flat P k) (fs.toList.map fun f => (f.type, f.offset)) ds 0).bind fun out => if out.length = P.cellsOf t then some out else none
    | _, _ => none
section
variable {H : Type} {enc : TypeId × Value → H} {P : Program} {w : World} {base : Nat} {sp : Nat → Bool} {held : Bool}
theorem flats_ok (F : TypeId → DataW H → Option (List Value)) (m : Nat) (cs : List Value)
    (hF : ∀ e d cs' p a, DataW.trod enc P w base sp held m e cs' = some (d, p) → F e d = some a → cs' = a) :
    ∀ (L : List (TypeId × Nat)) (xs : List (DataW H × List MemPlace)) (cur : Nat) (out : List Value), L.length = xs.length →
      (∀ (i : Nat) (e : TypeId) (o : Nat), L[i]? = some (e, o) → DataW.trod enc P w base sp held m e ((cs.drop o).take (P.cellsOf e)) = xs[i]?) → flats F L (xs.map (·.1)) cur = some out → (cs.drop cur).take out.length = out
  | [], [], cur, out, _, _, h => by
    simp only [List.map_nil, flats, Option.some.injEq] at h
    subst h; simp
  | (e, o) :: L, (d, p) :: xs, cur, out, hl, hx, h => by
    simp only [List.map_cons, flats] at h
    split at h
    · rename_i ho
      subst ho
      obtain ⟨a, ha, h⟩ := Option.bind_eq_some_iff.1 h
      obtain ⟨b, hb, rfl⟩ := Option.map_eq_some_iff.1 h
      have h0 := hx 0 e o rfl
      have e1 := hF e d _ p a (by simpa using h0) ha
      have ih := flats_ok F m cs hF L xs (o + a.length) b (by simpa using hl) (fun i e' o' hi => by simpa using hx (i + 1) e' o' (by simpa using hi)) hb
      have e2 : (cs.drop o).take a.length = a := by
        conv => rhs; rw [← e1]
        rw [← e1, List.length_take]
        rcases Nat.le_total (P.cellsOf e) (cs.drop o).length with hq | hq
        · rw [Nat.min_eq_left hq]
        · rw [Nat.min_eq_right hq, List.take_length, List.take_of_length_le hq]
      have e3 : cs.drop o = a ++ cs.drop (o + a.length) := by
        conv => lhs; rw [← List.take_append_drop a.length (cs.drop o), e2, List.drop_drop]
      rw [e3, List.length_append, List.take_length_add_append, ih]
    · cases h
  | [], _ :: _, _, _, hl, _, _ => by simp at hl
  | _ :: _, [], _, _, hl, _, _ => by simp at hl
theorem flat_ok : ∀ (k : Nat) (t : TypeId) (d : DataW H) (cs : List Value) (fuel : Nat) (p : List MemPlace) (out : List Value), DataW.trod enc P w base sp held fuel t cs = some (d, p) → flat P k t d = some out → cs = out
  | 0, _, _, _, _, _, _, _, h => by simp [flat] at h
  | k + 1, t, d, cs, fuel, p, out, ht, h => by
    unfold flat at h
    split at h
    · rename_i hu
      split at h
      · rename_i hq
        subst hq
        obtain ⟨n, rfl, e, _⟩ := DataW.trod_int hu ht
        simp only [Prod.mk.injEq, DataW.lit.injEq, Lit.int.injEq, true_and] at e
        obtain ⟨rfl, _⟩ := e
        exact Option.some.inj h
      · cases h
    · rename_i hu
      obtain ⟨b, rfl, e⟩ := DataW.trod_bool hu ht
      simp only [Prod.mk.injEq, DataW.lit.injEq, Lit.bool.injEq] at e
      obtain ⟨rfl, _⟩ := e
      exact Option.some.inj h
    · rename_i hu
      obtain ⟨s, rfl, e, _⟩ := DataW.trod_string hu ht
      simp only [Prod.mk.injEq, DataW.lit.injEq, Lit.string.injEq] at e
      obtain ⟨rfl, _⟩ := e
      exact Option.some.inj h
    · rename_i n e ds hu
      obtain ⟨xs, m, rfl, hx, hlen, hxl, hi⟩ := DataW.trod_array hu ht
      simp only [Prod.mk.injEq, DataW.agg.injEq] at hx
      obtain ⟨rfl, rfl⟩ := hx
      obtain ⟨o, ho, h⟩ := Option.bind_eq_some_iff.1 h
      split at h
      · rename_i hol
        obtain rfl := Option.some.inj h
        have := flats_ok (flat P k) m cs (fun e d cs' p a h1 h2 => flat_ok k e d cs' m p a h1 h2) _ xs 0 o (by simp [hxl]) (fun i e' o' hq => by
          simp only [List.getElem?_map, Option.map_eq_some_iff, Prod.mk.injEq] at hq
          obtain ⟨j, hj, rfl, rfl⟩ := hq
          obtain ⟨hj1, hj2⟩ := List.getElem?_eq_some_iff.1 hj
          simp only [List.getElem_range] at hj2
          subst hj2
          exact hi _ (by simpa using hj1)) ho
        rwa [List.drop_zero, hol, ← hlen, List.take_length] at this
      · cases h
    · rename_i fs ds hu
      obtain ⟨xs, m, rfl, hx, hlen, hxl, hi⟩ := DataW.trod_struct hu ht
      simp only [Prod.mk.injEq, DataW.agg.injEq] at hx
      obtain ⟨rfl, rfl⟩ := hx
      obtain ⟨o, ho, h⟩ := Option.bind_eq_some_iff.1 h
      split at h
      · rename_i hol
        obtain rfl := Option.some.inj h
        have := flats_ok (flat P k) m cs (fun e d cs' p a h1 h2 => flat_ok k e d cs' m p a h1 h2) _ xs 0 o (by simp [hxl]) (fun i e' o' hq => by
          simp only [List.getElem?_map, Option.map_eq_some_iff, Prod.mk.injEq] at hq
          obtain ⟨f, hf, rfl, rfl⟩ := hq
          exact hi i f (by simpa using hf)) ho
        rwa [List.drop_zero, hol, ← hlen, List.take_length] at this
      · cases h
    · cases h
end
theorem laidVars_at {P : Program} {W : World} {name : String} {d : DataW Unit} : ∀ (laid : List (String × DataW Unit)) (ps : List MemPlace), DataW.LaidVars P W laid ps → ∀ (i : Nat), laid[i]? = some (name, d) →
    ∃ g t cs fuel p, P.globalNamed name = some g ∧ (P.globals[g]?).map (·.type) = some t ∧ W.var? P name = some cs ∧ DataW.trod (fun _ => ()) P W 0 (fun _ => true) false fuel t cs.toList = some (d, p)
  | [], _, _, i, hi => by simp at hi
  | (n, d') :: r, ps, h, 0, hi => by
    obtain ⟨g, t, cs, fuel, p, q, h1, h2, h3, h4, _, _⟩ := h
    simp only [List.getElem?_cons_zero, Option.some.injEq, Prod.mk.injEq] at hi
    obtain ⟨rfl, rfl⟩ := hi
    exact ⟨g, t, cs, fuel, p, h1, h2, h3, h4⟩
  | (n, d') :: r, ps, h, i + 1, hi => by
    obtain ⟨g, t, cs, fuel, p, q, _, _, _, _, h5, _⟩ := h
    exact laidVars_at r q h5 i (by simpa using hi)
theorem laid_var {P : Program} {W : World} {name : String} {d : DataW Unit} {laid : List (String × DataW Unit)} {g : Nat} {t : TypeId} {k : Nat} {out : List Value} (i : Nat) (hi : laid[i]? = some (name, d)) (hg : P.globalNamed name = some g) (hty : (P.globals[g]?).map (·.type) = some t)
    (hf : flat P k t d = some out) (h : laidMet P laid W) : W.var? P name = some out.toArray := by
  obtain ⟨ps, h1, _⟩ := h
  obtain ⟨g', t', cs, fuel, p, hg', ht', hvar, hd⟩ := laidVars_at laid ps h1 i hi
  obtain rfl := Option.some.inj (hg.symm.trans hg')
  obtain rfl := Option.some.inj (hty.symm.trans ht')
  rw [hvar, ← flat_ok k t d _ _ _ _ hd hf]
theorem laid_cell {P : Program} {W : World} {name : String} {g : Nat} {out : List Value} (h : W.var? P name = some out.toArray) (hg : P.globalNamed name = some g) (i : Nat) (v : Value) (hv : out[i]? = some v) : W.cell? ⟨g, i, none⟩ = some v := by
  rw [World.var?_cell hg h i]
  simpa using hv
structure OffX where
  i : Nat
  nmi : Bool
  was : Bool
  A : Option Addr
  cap : Nat
  y : Nat → Value
def offB (h b8 : Nat) (S : Value) (b : Int) (x : OffX) : List Value := [x.y 0, S, .int .u8 b, pT h 0, x.y 4, x.y 5, x.y 6, x.y 7, pT b8 0, .int .i64 (x.i : Int), x.y 10, x.y 11, x.y 12, x.y 13, x.y 14, x.y 15, x.y 16, x.y 17, x.y 18, x.y 19, x.y 20, x.y 21, x.y 22, x.y 23, x.y 24, x.y 25, x.y 26, x.y 27, x.y 28, x.y 29, x.y 30, x.y 31, x.y 32, x.y 33, x.y 34, x.y 35, x.y 36, x.y 37, x.y 38, x.y 39, x.y 40, x.y 41, x.y 42, x.y 43, x.y 44, x.y 45, x.y 46, x.y 47, x.y 48, x.y 49, x.y 50, x.y 51, x.y 52, x.y 53, x.y 54, x.y 55, x.y 56, x.y 57, x.y 58, x.y 59, x.y 60, x.y 61, x.y 62, x.y 63, x.y 64, x.y 65, x.y 66]
def offC (c : CoT) (nmi was : Bool) : CoT := { c with nmi := nmi, was := was, off := true }
structure OffI (w : World) (b8 : Nat) (c : CoT) (S : Value) (n : Nat) (x : OffX) (W : World) : Prop where
  le : x.i ≤ n
  r0 : Row W w.heap.size 33 (coC { c with off := true } S)
  r1 : Row W b8 33 (coC (offC c x.nmi x.was) (.slice x.A c.got.length x.cap))
  got : GotIn W W.heap.size (.slice x.A c.got.length x.cap) c.got
  far : c.got ≠ [] → ∀ z, (Value.slice x.A c.got.length x.cap).ownBlock = some z → z < w.heap.size ∨ b8 < z
  low : Below w.heap.size w W
theorem own_lt {w : World} {B : Nat} {A : Option Addr} {c n : Nat} {xs : List Int} (hin : BytesIn w B A xs) (hne : xs ≠ []) : ∀ z, (Value.slice A n c).ownBlock = some z → z < B := fun z e => by
  cases xs with
  | nil => exact absurd rfl hne
  | cons x r =>
    obtain ⟨ad, rfl, hb, -⟩ := hin 0 x rfl
    injection e with e
    omega
theorem coreOff_walk (c : CoT) (A : Option Addr) (cap : Nat) (As : Option Addr) (caps : Nat) (ls : List LnT) (b : Int) (hb0 : 0 ≤ b) (hb1 : b ≤ 255) (hg : RgB c.r) (hcb : B8 c.b) (w : World) (hl : c.got.length ≤ cap) (hm : cap ≤ maxLen) (h8 : Bytes8 c.got) (hin : BytesIn w w.heap.size A c.got) (hn : A = none → cap = 0)
    (hls : ls.length ≤ caps) (hms : caps ≤ maxLen) (hlin : LnsIn w w.heap.size As ls) (hns : As = none → caps = 0) (hS : Samps w) (hM : Masks w) (hD : Digits w) (hC : Courses w) (hO : Modes w) :
    Calls Tryz.prog 8 #[coV c (.slice A c.got.length cap), .slice As ls.length caps, .int .u8 b] w fun e w' => e = .returned (.bool true) ∧ Below w.heap.size w w' := by
  have ht : Tabs w w.heap.size := (NextTabs.mk hM hC hD hO).tabs
  have hA : AccOk := acc_ok ht
  have hcn : ∀ nmi was, OkC (offC c nmi was) := fun _ _ => ⟨hg, h8, hcb⟩
  have hgi : GotIn w w.heap.size (.slice A c.got.length cap) c.got := ⟨A, cap, rfl, hl, hin, hn⟩
  go_enter Tryz.func8, Tryz.ntmps8
  refine coStart <| qQ [] (Many.begin w) fun w1 k1 => coR <| qC (awake18_any hA w1 (ht.below k1.touch.below) (hS.below k1.touch.below)) k1 fun w2 k2 => qE [] k2 fun w3 k3 => coS <| qQ [] k3 fun w4 k4 => coF <| coSkip <| eoT <| coS <| coR <| qR 4 [0] k4 fun w5 k5 => ?_
  by_cases h1 : (c.got.length : Int) > 30
  · exact tell 19 (decide_eq_true h1) <| qE [] k5 fun w6 k6 => coT <| qQ [] k6 fun w7 k7 => coRet <| eoTr <| eoIr (.bool true) ⟨rfl, k7.touch.below⟩
  refine tell 19 (decide_eq_false h1) <| qR 4 [] k5 fun w6 k6 => ?_
  by_cases h2 : (ls.length : Int) > 60
  · exact tell 23 (decide_eq_true h2) <| qE [] k6 fun w6 k6 => coT <| qQ [] k6 fun w7 k7 => coRet <| eoTr <| eoIr (.bool true) ⟨rfl, k7.touch.below⟩
  refine tell 23 (decide_eq_false h2) <| qE [] k6 fun w6 k6 => coF <| coSkip <| eoT <| qQ [0] k6 fun w7 k7 => qQ [0, 1] k7 fun w8 k8 => coS <| qQ [] k8 fun w9 k9 => coB <| ?_
  have r0 : Row w9 w.heap.size 33 (coC { c with off := true } (.slice A c.got.length cap)) := k9.row 0 (coC { c with off := true } (.slice A c.got.length cap)).toList (by kernel_rfl)
  have r1 : Row w9 w7.heap.size 33 (coC (offC c c.nmi c.was) (.slice A c.got.length cap)) := k9.row 1 (coC (offC c c.nmi c.was) (.slice A c.got.length cap)).toList (by kernel_rfl)
  have hb8 : w.heap.size < w7.heap.size := k7.lt 0 ⟨w.heap.size, 33, (coC { c with off := true } (.slice A c.got.length cap)).toList.map some⟩ (by kernel_rfl)
  have low9 := k9.touch.below
  have far0 : c.got ≠ [] → ∀ z, (Value.slice A c.got.length cap).ownBlock = some z → z < w.heap.size ∨ w7.heap.size < z := fun hne z e => .inl (own_lt hin hne z e)
  refine coLoop (offB w.heap.size w7.heap.size (.slice As ls.length caps) b) (OffI w w7.heap.size c (.slice A c.got.length cap) ls.length) (fun x => ls.length + 1 - x.i) (fun y => ⟨0, c.nmi, c.was, A, cap, y⟩) ⟨Nat.zero_le _, r0, r1, hgi.on low9, far0, low9⟩ ?_
  clear k1 k2 k3 k4 k5 k6 k7 k8 k9 r0 r1 low9 far0
  generalize w7.heap.size = b8 at *
  rintro ⟨i, nmi, was, A1, cap1, y⟩ W ⟨hi, r0, r1, got, far, low⟩
  dsimp only at hi r0 r1 got far low
  refine coS <| qQ [] (Many.begin W) fun wa ka => coI (decide ((i : Int) < (ls.length : Int))) (fun hlt => coSkip <| eoT <| coS <| coB <| ?_) fun hge => coX <| eoTx <| eoTx <| eoBx <| eoT ?_
  · have hil : i < ls.length := by
      have : (i : Int) < (ls.length : Int) := by simpa using hlt
      omega
    obtain ⟨p, rfl⟩ := hlin.addr hil
    have r0a := r0.below ka.touch.below r0.lt
    have r1a := r1.below ka.touch.below r1.lt
    have lowa := bOn low ka
    have gota := got.on ka.touch.below
    have hlW := (hlin.below lowa).more lowa.size
    obtain ⟨l, hle⟩ : ∃ l, l = ls[i] := ⟨_, rfl⟩
    obtain ⟨wait, bus, irq, ln, rs⟩ := l
    obtain ⟨m, hml⟩ : ∃ m : LnT, m = ⟨wait, true, irq, ln, false⟩ := ⟨_, rfl⟩
    have km := Many.two r0a r1a (by omega)
    have lowK : ∀ {W' rs}, Many wa [w.heap.size, b8] rs W' → Below w.heap.size w W' := fun k => Kept.low lowa (Kept.of_touch k.touch) lowa.size fun x e => by simp at e; omega
    have gotK : ∀ {W' rs}, Many wa [w.heap.size, b8] rs W' → GotIn W' W'.heap.size (.slice A1 c.got.length cap1) c.got := fun k => gota.stay (Kept.of_touch k.touch) fun hne x e h => by
      have := far hne x e
      simp at h
      omega
    have eT : tickC (offC c nmi was) m b = offC c (nmi || (ln && !was)) ln := by
      rw [tick_away (by rw [hml]) rfl, hml]
      rfl
    have KA := fun (W' : World) (h : Samps W') => casks_any (offC c nmi was) A1 c.got.length cap1 m W' h
    have KE := fun (W' : World) (h : Below w.heap.size w W') (h2 : GotIn W' W'.heap.size (.slice A1 c.got.length cap1) c.got) => cends_any hA (offC c nmi was) (hcn nmi was) m b ⟨hb0, hb1⟩ (.slice A1 c.got.length cap1) (by show c.got.length ≤ _; omega) W' h2 (ht.below h) (hS.below h)
    have KT := fun (W' : World) (h : Below w.heap.size w W') (h2 : GotIn W' W'.heap.size (.slice A1 c.got.length cap1) c.got) => ctick18_any hA (offC c nmi was) (hcn nmi was) m b ⟨hb0, hb1⟩ (.slice A1 c.got.length cap1) (by show c.got.length ≤ _; omega) W' h2 (ht.below h) (hS.below h)
    have eA : asksB (offC c nmi was) m = false := by unfold asksB; rw [hml]; rfl
    have eE : endsB (offC c nmi was) m b = false := by unfold endsB overB; rw [hml]; rfl
    rw [eA, show asksC (offC c nmi was) m = zeroCy by unfold asksC; rw [eA]; rfl] at KA
    rw [eE] at KE
    rw [eT] at KT
    obtain ⟨d, hd⟩ : ∃ d, d = offC c (nmi || (ln && !was)) ln := ⟨_, rfl⟩
    have hdg : d.got = c.got := by rw [hd]; rfl
    rw [← hd] at KT
    rw [hml] at KA KE KT
    refine coR <| qR 2 [] km fun wb kb => wM (xIndex (ixLn p ls.length caps i hil _)) <| wM (xLoad ((hlin.below (lowK kb)).ld hil)) ?_
    rw [← hle]
    refine qE [2] kb fun wc kc => qQ [2] kc fun wd kd => qQ [2] kd fun we ke => coR <| qR 2 [1, 2] ke fun wf kf => qC (KA wf (hS.below (lowK kf))) kf fun wg kg => qE [3] kg fun wh kh => coS <| coR <| qR 5 [1, 2] kh fun wi ki => qC (KE wi (lowK ki) (gotK ki)) ki fun wj kj => qE [] kj fun wk kk => coF <| coSkip <| eoT <| coZ <| qR 3 [1, 2] kk fun wl kl => ?_
    have hbl : b8 < wl.heap.size := kl.lt 1 ⟨b8, 33, (coC (offC c nmi was) (.slice A1 c.got.length cap1)).toList.map some⟩ (by kernel_rfl)
    refine kX (KT wl (lowK kl) (gotK kl)) fun e wm ⟨v', he, hgo, hown, hb⟩ => ⟨_, he, ?_⟩
    rw [hdg] at hgo
    have hgo' := hgo
    obtain ⟨A2, cap2, rfl, -⟩ := hgo'
    have km := (kl.below hb).take 2 [⟨w.heap.size, 33, (coC { c with off := true } (.slice A c.got.length cap)).toList.map some⟩, ⟨b8, 33, (coC (offC c nmi was) (.slice A1 c.got.length cap1)).toList.map some⟩]
    have kn := km.anewK (Kept.refl (fun _ => False) wm) [w.heap.size, b8] (fun _ _ h => h)
    have lown := lowK km
    refine qF [1] kn fun wn kn2 => eoB <| eoT <| coZ <| qR 1 [] kn2 fun wo ko => wM (xInc i (by omega)) <| qF [] ko fun wp kp => eoRound (fun y => ⟨i + 1, nmi || (ln && !was), ln, A2, cap2, y⟩) ⟨by show i + 1 ≤ _; omega, kp.row 0 (coC { c with off := true } (.slice A c.got.length cap)).toList (by kernel_rfl), ?_, ?_, ?_, ?_⟩ (by show ls.length + 1 - (i + 1) < ls.length + 1 - i; omega)
    · show Row wp b8 _ (coC (offC c (nmi || (ln && !was)) ln) _)
      rw [← hd]
      exact kp.row 1 (coC d (.slice A2 c.got.length cap2)).toList (by kernel_rfl)
    · exact hgo.stay (Kept.of_touch kp.touch) fun hne x e h => by
        have := hown x e
        simp at h
        omega
    · exact fun hne z e => .inr (by have := hown z e; omega)
    · exact Kept.low lown (Kept.of_touch kp.touch) lown.size fun x e => by simp at e; omega
  · have r0a := r0.below ka.touch.below r0.lt
    have r1a := r1.below ka.touch.below r1.lt
    have lowa := bOn low ka
    have gota := got.on ka.touch.below
    have km := Many.two r0a r1a (by omega)
    have lowK : ∀ {W' rs}, Many wa [w.heap.size, b8] rs W' → Below w.heap.size w W' := fun k => Kept.low lowa (Kept.of_touch k.touch) lowa.size fun x e => by simp at e; omega
    have gotK : ∀ {W' rs}, Many wa [w.heap.size, b8] rs W' → GotIn W' W'.heap.size (.slice A1 c.got.length cap1) c.got := fun k => gota.stay (Kept.of_touch k.touch) fun hne x e h => by
      have := far hne x e
      simp at h
      omega
    have hfin : ∀ (W' : World) (h1 : GotIn W' W'.heap.size (.slice A1 c.got.length cap1) c.got) (h2 : GotIn W' W'.heap.size (.slice A c.got.length cap) c.got), Calls Tryz.prog 19 #[coV { c with off := true } (.slice A1 c.got.length cap1), coV { c with off := true } (.slice A c.got.length cap)] W' fun e w' => e = .returned (.bool true) ∧ Below W'.heap.size W' w' := fun W' h1 h2 => same18_any { c with off := true } h8 _ _ W' h1 h2
    refine qQ [0, 1] km fun wb kb => qQ [0, 1] kb fun wc kc => qP 3 kc fun wd kd => qD 1 [0] kd <| qD 0 [2] kd <| qDc 1 (plain18_any { c with off := true } A1 c.got.length cap1 wd) kd fun we ke => poE <| qC (plain18_any { c with off := true } A c.got.length cap we) ke fun wf kf => qC (hfin wf (gotK kf) (hgi.on (lowK kf))) kf fun wg kg => qE [] kg fun wh kh => coRet <| eoIr (.bool true) ⟨rfl, lowK kh⟩
end Go.Proofs.YtkenebbjodcbcaaGreatDoor
