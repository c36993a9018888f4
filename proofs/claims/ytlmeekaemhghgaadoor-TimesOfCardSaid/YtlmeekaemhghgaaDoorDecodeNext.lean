/- Layer 8 (decode): Next: contract. -/
import Derived.Test.YtlmeekaemhghgaaDoorDecodeParse
import Derived.Deep.DeepCutAuto
import Derived.Outline
namespace Go.Proofs.YtlmeekaemhghgaaDoor
open Go.RowKit
set_option linter.unusedVariables false
set_option linter.unusedSimpArgs false

/-- an instruction, and whether it is one, as an answer -/
abbrev opB (o : OpM) (b : Bool) : Value := .tuple #[opV o.plane o.code o.disp o.imm o.len o.skip, .bool b]
theorem okM_yes {xs : List Int} (h : okM xs = true) : lenOf xs ≤ xs.length ∧ nextO xs = opOf xs := by
  have h2 := h
  unfold okM at h2
  rw [decide_eq_true_eq] at h2
  exact ⟨h2, by unfold nextO; rw [h]; rfl⟩
theorem okM_no {xs : List Int} (h : okM xs = false) : xs.length < lenOf xs ∧ nextO xs = zeroOp := by
  have h2 := h
  unfold okM at h2
  rw [decide_eq_false_iff_not] at h2
  exact ⟨by omega, by unfold nextO; rw [h]; rfl⟩
set_option maxHeartbeats 400000 in
theorem next_any (ad : Option Addr) (cap : Nat) (xs : List Int) (hl : xs.length ≤ 140737488355328) (hx : Bytes8 xs) (w : World) (h : BytesIn w w.heap.size ad xs) :
    Calls Tryd.prog 42 #[.slice ad xs.length cap] w fun e w' => e = .returned (opB (nextO xs) (okM xs)) ∧ Below w.heap.size w w' := by
  have ex : ∀ W : World, W = (((w.alloc (.cells #[.slice ad xs.length cap] 29)).alloc (.cells zeroC 24)).alloc (.cells #[.int .i64 0] 3)).alloc (.cells #[.bool false] 4) →
      Rd W w.heap.size (w.heap.size + 1 + 1) w.heap.size (w.heap.size + 1 + 1 + 1) ad cap xs 0 ∧ Row W (w.heap.size + 1) 24 zeroC ∧ Below w.heap.size w W ∧ W.heap.size = w.heap.size + 1 + 1 + 1 + 1 := by
    rintro W rfl
    have b1 := Boxed.new w 29 (.slice ad xs.length cap)
    have b2 := Row.new (w.alloc (.cells #[.slice ad xs.length cap] 29)) 24 zeroC
    have b3 := Boxed.new ((w.alloc (.cells #[.slice ad xs.length cap] 29)).alloc (.cells zeroC 24)) 3 (.int .i64 0)
    have b4 := Boxed.new (((w.alloc (.cells #[.slice ad xs.length cap] 29)).alloc (.cells zeroC 24)).alloc (.cells #[.int .i64 0] 3)) 4 (.bool false)
    simp only [World.size_alloc] at b2 b3 b4
    have hb : Below w.heap.size w ((((w.alloc (.cells #[.slice ad xs.length cap] 29)).alloc (.cells zeroC 24)).alloc (.cells #[.int .i64 0] 3)).alloc (.cells #[.bool false] 4)) := (by repeat (first | exact Below.refl _ _ | assumption | refine bstep ?_ (by assumption) | refine Below.drew ?_ | refine Below.alloc ?_ (by first | (simp; done) | (simp; omega) | omega) _ | refine Below.setCell ?_ (by first | (simp; done) | (simp; omega) | omega) _))
    refine ⟨⟨?_, ((b1.alloc _).alloc _).alloc _, ?_, h.below hb, by omega, by omega, by omega, by omega, by omega, by omega⟩, (b2.alloc _).alloc _, hb, by simp only [World.size_alloc]⟩
    · rw [Nat.zero_min]
      exact b3.alloc _
    · rw [decide_eq_false (by omega)]
      exact b4
  obtain ⟨hR, hrow, hb, hsz⟩ := ex _ rfl
  have hB := Lib.hid hb
  have hz0 := Lib.hid hsz
  clear hsz
  have hW := Lib.hid (parse_any w.heap.size (w.heap.size + 1 + 1) w.heap.size (w.heap.size + 1 + 1 + 1) ad cap xs hl hx _ hR)
  have hrow' := Lib.hid hrow
  clear ex hR hb h hrow
  have hlen := lenOf_eq xs
  generalize hop : opOf xs = o at *
  obtain ⟨pl, co, di, im, le, sk⟩ := o
  cases ho : okM xs with
  | true =>
    obtain ⟨o1, o2⟩ := okM_yes ho
    rw [hop] at o2
    clear hop
    generalize nextO xs = no at *
    subst o2
    generalize lenOf xs = L at *
    have hlen' := Lib.hid hlen
    clear ho hlen
    go_enter Tryd.func42, Tryd.ntmps42
    go_wp2_with fail
    refine hW.out.mono ?_
    rintro e w5 ⟨rfl, hr, hbs⟩
    have hz := hbs.size
    rw [hz0.out] at hz
    have r1 := hrow'.out.besides hbs (by omega) (by omega)
    have hB5 := Lib.hid (hB.out.trans (hbs.below (B := w.heap.size) (by omega) (by omega) (by rw [hz0.out]; omega)))
    have rO := Lib.hid (Row.new w5 24 #[.int .i64 pl, .int .u8 co, .int .u8 di, .int .u16 im, .int .i64 (L : Int), .int .i64 sk])
    have rR := Lib.hid (r1.alloc (.cells #[.int .i64 pl, .int .u8 co, .int .u8 di, .int .u16 im, .int .i64 (L : Int), .int .i64 sk] 24))
    have hB7 := Lib.hid (hB5.out.alloc (by omega) (.cells #[.int .i64 pl, .int .u8 co, .int .u8 di, .int .u16 im, .int .i64 (L : Int), .int .i64 sk] 24))
    have a1 := hr.hA.cell
    have s1 := hr.hS.cell
    rw [Nat.min_eq_left o1] at a1
    rw [decide_eq_false (show ¬ xs.length < L by omega)] at s1
    have z2 : w.heap.size + 1 + 1 < w5.heap.size := by omega
    have z3 : w.heap.size + 1 + 1 + 1 < w5.heap.size := by omega
    have n1 : w.heap.size + 1 ≠ w5.heap.size := by omega
    clear hr hbs r1 hz hB5
    go_upto_region 7 with (fail)
    generalize hW7 : w5.alloc (.cells #[.int .i64 pl, .int .u8 co, .int .u8 di, .int .u16 im, .int .i64 (L : Int), .int .i64 sk] 24) = W7 at *
    clear hW7 a1 s1 z2 z3
    generalize w5.heap.size = O at *
    obtain ⟨⟨c0, c1, c2, c3, c4, c5⟩, f⟩ := row6 rR.out
    obtain ⟨⟨d0, d1, d2, d3, d4, d5⟩, g⟩ := row6 rO.out
    have fin := Lib.hid ((((((hB7.out.setCell (p := ⟨w.heap.size + 1, 0, none⟩) (by show w.heap.size ≤ w.heap.size + 1; omega) (.int .i64 pl)).setCell (p := ⟨w.heap.size + 1, 1, none⟩) (by show w.heap.size ≤ w.heap.size + 1; omega) (.int .u8 co)).setCell (p := ⟨w.heap.size + 1, 2, none⟩) (by show w.heap.size ≤ w.heap.size + 1; omega) (.int .u8 di)).setCell (p := ⟨w.heap.size + 1, 3, none⟩) (by show w.heap.size ≤ w.heap.size + 1; omega) (.int .u16 im)).setCell (p := ⟨w.heap.size + 1, 4, none⟩) (by show w.heap.size ≤ w.heap.size + 1; omega) (.int .i64 (L : Int))).setCell (p := ⟨w.heap.size + 1, 5, none⟩) (by show w.heap.size ≤ w.heap.size + 1; omega) (.int .i64 sk))
    clear hB7
    generalize w.heap.size + 1 = R at *
    go_wp2
    refine bodyPost_ret (v := .tuple #[opV pl co di im (L : Int) sk, .bool true]) (by simp [results, Tryd.f42, go_sem, c0, c1, c2, c3, c4, c5]) rfl ?_
    exact ⟨by rw [hlen'.out], fin.out⟩
  | false =>
    obtain ⟨o1, o2⟩ := okM_no ho
    clear hop
    generalize nextO xs = no at *
    subst o2
    generalize lenOf xs = L at *
    have hlen' := Lib.hid hlen
    clear ho hlen
    go_enter Tryd.func42, Tryd.ntmps42
    go_wp2_with fail
    refine hW.out.mono ?_
    rintro e w5 ⟨rfl, hr, hbs⟩
    have hz := hbs.size
    rw [hz0.out] at hz
    have r1 := hrow'.out.besides hbs (by omega) (by omega)
    have hB5 := Lib.hid (hB.out.trans (hbs.below (B := w.heap.size) (by omega) (by omega) (by rw [hz0.out]; omega)))
    have rO := Lib.hid (Row.new w5 24 #[.int .i64 pl, .int .u8 co, .int .u8 di, .int .u16 im, .int .i64 0, .int .i64 sk])
    have rR := Lib.hid (r1.alloc (.cells #[.int .i64 pl, .int .u8 co, .int .u8 di, .int .u16 im, .int .i64 0, .int .i64 sk] 24))
    have hB7 := Lib.hid (hB5.out.alloc (by omega) (.cells #[.int .i64 pl, .int .u8 co, .int .u8 di, .int .u16 im, .int .i64 0, .int .i64 sk] 24))
    have a1 := hr.hA.cell
    have s1 := hr.hS.cell
    clear a1
    rw [decide_eq_true o1] at s1
    have z3 : w.heap.size + 1 + 1 + 1 < w5.heap.size := by omega
    have n1 : w.heap.size + 1 ≠ w5.heap.size := by omega
    clear hr hbs r1 hz hB5
    go_upto_region 5 with (fail)
    generalize hW7 : w5.alloc (.cells #[.int .i64 pl, .int .u8 co, .int .u8 di, .int .u16 im, .int .i64 0, .int .i64 sk] 24) = W7 at *
    clear hW7 s1 z3
    generalize w5.heap.size = O at *
    obtain ⟨⟨c0, c1, c2, c3, c4, c5⟩, f⟩ := row6 rR.out
    obtain ⟨⟨d0, d1, d2, d3, d4, d5⟩, g⟩ := row6 rO.out
    have fin := Lib.hid ((((((hB7.out.setCell (p := ⟨w.heap.size + 1, 0, none⟩) (by show w.heap.size ≤ w.heap.size + 1; omega) (.int .i64 0)).setCell (p := ⟨w.heap.size + 1, 1, none⟩) (by show w.heap.size ≤ w.heap.size + 1; omega) (.int .u8 0)).setCell (p := ⟨w.heap.size + 1, 2, none⟩) (by show w.heap.size ≤ w.heap.size + 1; omega) (.int .u8 0)).setCell (p := ⟨w.heap.size + 1, 3, none⟩) (by show w.heap.size ≤ w.heap.size + 1; omega) (.int .u16 0)).setCell (p := ⟨w.heap.size + 1, 4, none⟩) (by show w.heap.size ≤ w.heap.size + 1; omega) (.int .i64 0)).setCell (p := ⟨w.heap.size + 1, 5, none⟩) (by show w.heap.size ≤ w.heap.size + 1; omega) (.int .i64 0))
    clear hB7
    generalize w.heap.size + 1 = R at *
    go_wp2
    refine bodyPost_ret (v := .tuple #[opV 0 0 0 0 0 0, .bool false]) (by simp [results, Tryd.f42, go_sem, c0, c1, c2, c3, c4, c5]) rfl ?_
    exact ⟨rfl, fin.out⟩
end Go.Proofs.YtlmeekaemhghgaaDoor
