/- Layer 3 (sum): contracts of Add, Sub, Cmp, Inc, Dec, Neg and the document's own. -/
import Derived.Test.YtedbjockmlhnbaaSumLeaf
import Derived.Test.YtedbjockmlhnbaaBox
namespace Go.Proofs.Ytedbjockmlhnbaa
open Go.RowKit
set_option linter.unusedVariables false
set_option linter.unusedSimpArgs false

theorem join_add_fin : ∀ (x : Fin 256) (h v c : Bool), joinUpto [resultM (x.val : Int), whenM h 16, whenM v 4, whenM c 1] 4 = mkM (isM (x.val : Int) 7) ((x.val : Int) == 0) (isM (x.val : Int) 5) h (isM (x.val : Int) 3) v false c := by decide +kernel
theorem join_add (x : Int) (hx : B8 x) (h v c : Bool) : joinUpto [resultM x, whenM h 16, whenM v 4, whenM c 1] 4 = mkM (isM x 7) (x == 0) (isM x 5) h (isM x 3) v false c :=
  byte_all (P := fun x => joinUpto [resultM x, whenM h 16, whenM v 4, whenM c 1] 4 = mkM (isM x 7) (x == 0) (isM x 5) h (isM x 3) v false c) (fun x => join_add_fin x h v c) x hx.1 hx.2
theorem add_math (a b : Int) (c : Bool) (ha : B8 a) (hb : B8 b) :
    joinUpto [resultM (addR a b c), whenM (isM (outM a b c 8) 3) 16, whenM (!isM (outM a b c 8) 6 == isM (outM a b c 8) 7) 4, whenM (isM (outM a b c 8) 7) 1] 4 = addF a b c := by
  obtain ⟨e3, e6, e7⟩ := out_bits a b c
  obtain ⟨n4, n8, n7⟩ := cK_nums a b c ha hb
  change joinUpto [_, _, whenM (isM (outM a b c 8) 6 != isM (outM a b c 8) 7) 4, _] 4 = _
  rw [join_add _ (addR_byte a b c), e3, e6, e7, n7, n4, n8]
  rfl
theorem cells4 (w : World) (t : TypeId) (x0 x1 x2 x3 : Int) (n : Nat × Nat) : ∀ j, j < [x0, x1, x2, x3].length → (w.alloc (.cells #[.int .u8 x0, .int .u8 x1, .int .u8 x2, .int .u8 x3] t n)).cell? ⟨w.heap.size, 0 + j, none⟩ = some (.int .u8 ([x0, x1, x2, x3].getD j 0)) := by
  have e : ∀ o : Obj, (w.alloc o).heap[w.heap.size]? = some o := fun o => by
    show (w.heap.push _)[w.heap.size]? = _
    simp
  intro j hj
  match j, hj with
  | 0, _ => simp only [World.cell?, Nat.zero_add, e]; rfl
  | 1, _ => simp only [World.cell?, Nat.zero_add, e]; rfl
  | 2, _ => simp only [World.cell?, Nat.zero_add, e]; rfl
  | 3, _ => simp only [World.cell?, Nat.zero_add, e]; rfl
theorem cells2 (w : World) (t : TypeId) (x0 x1 : Int) (n : Nat × Nat) : ∀ j, j < [x0, x1].length → (w.alloc (.cells #[.int .u8 x0, .int .u8 x1] t n)).cell? ⟨w.heap.size, 0 + j, none⟩ = some (.int .u8 ([x0, x1].getD j 0)) := by
  have e : ∀ o : Obj, (w.alloc o).heap[w.heap.size]? = some o := fun o => by
    show (w.heap.push _)[w.heap.size]? = _
    simp
  intro j hj
  match j, hj with
  | 0, _ => simp only [World.cell?, Nat.zero_add, e]; rfl
  | 1, _ => simp only [World.cell?, Nat.zero_add, e]; rfl
set_option maxHeartbeats 4000000 in
theorem add_any (a b : Int) (c : Bool) (ha : B8 a) (hb : B8 b) (w : World) :
    Calls Try.prog 32 #[.int .u8 a, .int .u8 b, .bool c] w fun e w' => e = .returned (two (addR a b c) (addF a b c)) ∧ Below w.heap.size w w' := by
  have hm := Lib.hid (add_math a b c ha hb)
  have hr := Lib.hid (addR_byte a b c)
  have ho := Lib.hid (outM_byte a b c 8)
  have ha := Lib.hid ha
  have hb := Lib.hid hb
  have a0 := ha.out.1
  have a1 := ha.out.2
  have b0 := hb.out.1
  have b1 := hb.out.2
  go_enter Try.func32, Try.ntmps32
  go_wp2_with (first
    | (go_at_call 42; refine (when_any _ _ (by omega) (by omega) _).mono ?_; rintro e w' ⟨rfl, rfl⟩)
    | (go_at_call 43; refine (carries_any _ _ _ ha.out hb.out _).mono ?_; rintro e w' ⟨rfl, rfl⟩)
    | (go_at_call 29; refine (is_any _ _ ho.out.1 ho.out.2 _).mono ?_; rintro e w' ⟨rfl, rfl⟩)
    | (go_at_call 38; refine (result_any _ (by omega) (by omega) _).mono ?_; rintro e w' ⟨rfl, rfl⟩)
    | (go_at_call 33; refine (join_any _ 0 4 4 [resultM (addR a b c), whenM (isM (outM a b c 8) 3) 16, whenM (!isM (outM a b c 8) 6 == isM (outM a b c 8) 7) 4, whenM (isM (outM a b c 8) 7) 1] _ (by simp) (by omega) (cells4 _ _ _ _ _ _ _)).mono ?_; rintro e w' ⟨rfl, rfl⟩))
  go_ret2
  exact ⟨by rw [hm.out]; rfl, (by repeat (first | exact Below.refl _ _ | assumption | refine bstep ?_ (by assumption) | refine Below.drew ?_ | refine Below.alloc ?_ (by first | (simp; done) | (simp; omega) | omega) _ | refine Below.setCell ?_ (by first | (simp; done) | (simp; omega) | omega) _))⟩
end Go.Proofs.Ytedbjockmlhnbaa
