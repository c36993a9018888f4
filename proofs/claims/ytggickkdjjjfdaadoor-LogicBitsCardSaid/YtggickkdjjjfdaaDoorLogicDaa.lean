/- Layer 5 (logic): contracts of correct and Daa. -/
import Derived.Test.YtggickkdjjjfdaaDoorLogicLeaf
namespace Go.Proofs.YtggickkdjjjfdaaDoor
open Go.RowKit
set_option linter.unusedVariables false
set_option linter.unusedSimpArgs false

/-- what the package's table holds -/
def Digits (w : World) : Prop := w.cell? ⟨0, 0, none⟩ = some (.int .u8 16) ∧ w.cell? ⟨0, 1, none⟩ = some (.int .u8 15) ∧ w.cell? ⟨0, 2, none⟩ = some (.int .u8 9) ∧ w.cell? ⟨0, 3, none⟩ = some (.int .u8 6) ∧ w.cell? ⟨0, 4, none⟩ = some (.int .u8 1) ∧ w.cell? ⟨0, 5, none⟩ = some (.int .u8 255) ∧ w.cell? ⟨0, 6, none⟩ = some (.int .u8 153) ∧ w.cell? ⟨0, 7, none⟩ = some (.int .u8 96)
theorem Digits.below {w w' : World} (h : Digits w) (k : Below w.heap.size w w') : Digits w' := by
  obtain ⟨h0, h1, h2, h3, h4, h5, h6, h7⟩ := h
  exact ⟨(k.cell (World.block_lt_of_cell? _ _ h0)).trans h0, (k.cell (World.block_lt_of_cell? _ _ h1)).trans h1, (k.cell (World.block_lt_of_cell? _ _ h2)).trans h2, (k.cell (World.block_lt_of_cell? _ _ h3)).trans h3, (k.cell (World.block_lt_of_cell? _ _ h4)).trans h4, (k.cell (World.block_lt_of_cell? _ _ h5)).trans h5, (k.cell (World.block_lt_of_cell? _ _ h6)).trans h6, (k.cell (World.block_lt_of_cell? _ _ h7)).trans h7⟩
theorem run_index_row {P : Program} {t e : TypeId} {n m : Nat} {fs : Array Field} {cs : Array Value} {k : IntKind} {i : Int} {w : World} (h : P.underlying t = some (.array n e)) (he : P.underlying e = some (.struct fs)) (hs : (sizeOf e).run P w = .ok m w) (hi : 0 ≤ i ∧ i < n) :
    (Instr.index t (.agg cs) (.int k i)).run P w = .ok (.agg (cs.extract (i.toNat * m) (i.toNat * m + m))) w := by
  simp [Instr.index, asIntOf, run_underlying h, hi, hs, part, isAgg, run_underlying he]
theorem ixd_0 (a0 a1 a2 a3 a4 a5 a6 a7 : Value) (w : World) : (Instr.index 47 (.agg #[a0, a1, a2, a3, a4, a5, a6, a7]) (.int .i64 0)).run Tryd.prog w = .ok (.agg #[a0, a1, a2, a3]) w :=
  run_index_row (m := 4) Tryd.underlying47 Tryd.underlying46 (by kernel_rfl) (by decide)
theorem ixd_1 (a0 a1 a2 a3 a4 a5 a6 a7 : Value) (w : World) : (Instr.index 47 (.agg #[a0, a1, a2, a3, a4, a5, a6, a7]) (.int .i64 1)).run Tryd.prog w = .ok (.agg #[a4, a5, a6, a7]) w :=
  run_index_row (m := 4) Tryd.underlying47 Tryd.underlying46 (by kernel_rfl) (by decide)
attribute [local go_sem ↓] ixd_0 ixd_1
theorem flag_fin : ∀ x : Fin 256, bits .and .u8 (x.val : Int) 16 = (if isM (x.val : Int) 4 then 16 else 0) ∧ bits .and .u8 (x.val : Int) 1 = (if isM (x.val : Int) 0 then 1 else 0) ∧ bits .and .u8 (x.val : Int) 15 = (x.val : Int) % 16 ∧ bits .and .u8 (x.val : Int) 255 = (x.val : Int) ∧ bits .and .u8 (x.val : Int) 2 = (if isM (x.val : Int) 1 then 2 else 0) := by decide +kernel
theorem flag_all (f : Int) (h : B8 f) : bits .and .u8 f 16 = (if isM f 4 then 16 else 0) ∧ bits .and .u8 f 1 = (if isM f 0 then 1 else 0) ∧ bits .and .u8 f 15 = f % 16 ∧ bits .and .u8 f 255 = f ∧ bits .and .u8 f 2 = (if isM f 1 then 2 else 0) :=
  byte_all (P := fun f => bits .and .u8 f 16 = (if isM f 4 then 16 else 0) ∧ bits .and .u8 f 1 = (if isM f 0 then 1 else 0) ∧ bits .and .u8 f 15 = f % 16 ∧ bits .and .u8 f 255 = f ∧ bits .and .u8 f 2 = (if isM f 1 then 2 else 0)) flag_fin f h.1 h.2
/-- the flags of the digits that are wrong -/
def wrongM (a f : Int) : Int := (if wrongLow a f then 16 else 0) + (if wrongHigh a f then 1 else 0)
theorem or_17 : bits .or .u8 0 16 = 16 ∧ bits .or .u8 16 1 = 17 ∧ bits .or .u8 0 1 = 1 := by decide +kernel
set_option maxHeartbeats 8000000 in
theorem correct_any (a f : Int) (ha : B8 a) (hf : B8 f) (w : World) (hd : Digits w) :
    Calls Tryd.prog 35 #[.int .u8 a, .int .u8 f] w fun e w' => e = .returned (two (byM a f) (wrongM a f)) ∧ Below w.heap.size w w' := by
  obtain ⟨d0, d1, d2, d3, d4, d5, d6, d7⟩ := hd
  obtain ⟨k1, k2, _, _, _⟩ := flag_all f hf
  obtain ⟨_, _, k3, k4, _⟩ := flag_all a ha
  obtain ⟨o1, o2, o3⟩ := or_17
  have a0 := ha.1
  have a1 := ha.2
  by_cases c2 : 9 < a % 16 <;> by_cases c4 : 153 < a <;> cases c1 : isM f 4 <;> cases c3 : isM f 0
  all_goals
    rw [c1] at k1
    rw [c3] at k2
    simp only [if_true, if_false, Bool.false_eq_true] at k1 k2
    have hb : byM a f = (if isM f 4 || decide (9 < a % 16) then 6 else 0) + (if isM f 0 || decide (153 < a) then 96 else 0) := rfl
    have hw : wrongM a f = (if isM f 4 || decide (9 < a % 16) then 16 else 0) + (if isM f 0 || decide (153 < a) then 1 else 0) := rfl
    first | rw [c1, c3, decide_eq_true c2, decide_eq_true c4] at hb hw | rw [c1, c3, decide_eq_true c2, decide_eq_false c4] at hb hw | rw [c1, c3, decide_eq_false c2, decide_eq_true c4] at hb hw | rw [c1, c3, decide_eq_false c2, decide_eq_false c4] at hb hw
    have hb := Lib.hid hb
    have hw := Lib.hid hw
    clear c1 c3
    go_enter Tryd.func35, Tryd.ntmps35
    go_wp2
    refine wp_loop_rounds 3 ?_
    iterate 3 (rw [rounds_succ]; go_wp2)
    go_ret2
    exact ⟨by rw [hb.out, hw.out]; rfl, (by repeat (first | exact Below.refl _ _ | assumption | refine bstep ?_ (by assumption) | refine Below.drew ?_ | refine Below.alloc ?_ (by first | (simp; done) | (simp; omega) | omega) _ | refine Below.setCell ?_ (by first | (simp; done) | (simp; omega) | omega) _))⟩
theorem daa_bits : ∀ b0 b1 b2 b4 b5 n h c : Bool, bits .or .u8 (bits .or .u8 (bits .or .u8 (mkM b0 b1 b2 false b4 b5 false false) (if n then 2 else 0)) (if h then 16 else 0)) (if c then 1 else 0) = mkM b0 b1 b2 h b4 b5 n c := by decide +kernel
theorem wrong_low (a f : Int) : bits .and .u8 (wrongM a f) 1 = if wrongHigh a f then 1 else 0 := by
  unfold wrongM
  generalize wrongLow a f = x
  generalize wrongHigh a f = y
  revert x y
  decide +kernel
theorem wrongM_byte (a f : Int) : B8 (wrongM a f) := by unfold wrongM B8; split <;> split <;> omega
theorem daa_math (a f : Int) (ha : B8 a) (hf : B8 f) :
    bits .or .u8 (bits .or .u8 (bits .or .u8 (evenFM (daaR a f)) (bits .and .u8 f 2)) (bits .and .u8 (bits .xor .u8 a (daaR a f)) 16)) (bits .and .u8 (wrongM a f) 1) = daaF a f := by
  have hr := daaR_byte a f
  have hx := xor_byte a (daaR a f) ha.1 ha.2 hr.1 hr.2
  rw [(flag_all f hf).2.2.2.2, (flag_all _ hx).1, wrong_low]
  have i := isM_xor a (daaR a f) 4 (by omega) ha.1 ha.2 hr.1 hr.2
  rw [show isM (bits .xor .u8 a (daaR a f)) 4 = (isM a 4 != isM (daaR a f) 4) from by simpa using i]
  exact daa_bits _ _ _ _ _ _ _ _
set_option maxHeartbeats 4000000 in
theorem daa_any (a f : Int) (ha : B8 a) (hf : B8 f) (w : World) (hd : Digits w) :
    Calls Tryd.prog 16 #[.int .u8 a, .int .u8 f] w fun e w' => e = .returned (two (daaR a f) (daaF a f)) ∧ Below w.heap.size w w' := by
  have hm := daa_math a f ha hf
  have hr := daaR_byte a f
  have hy := byM_byte a f
  have k := (flag_all f hf).2.2.2.2
  have a0 := ha.1
  have a1 := ha.2
  cases c : isM f 1
  · have e : daaR a f = (a + byM a f) % 256 := by unfold daaR; rw [c]; rfl
    rw [c] at k
    simp only [if_false, Bool.false_eq_true] at k
    rw [k, e] at hm
    rw [e] at hr ⊢
    have hm := Lib.hid hm
    clear e c
    go_enter Tryd.func16, Tryd.ntmps16
    go_wp2_with (first
      | (go_at_call 35; refine (correct_any _ _ (by assumption) (by assumption) _ hd).mono ?_; rintro e w' ⟨rfl, hb⟩; have hsz := hb.size)
      | (go_at_call 26; refine (evenF_any _ (B8.lo (by assumption)) (B8.hi (by assumption)) _).mono ?_; rintro e w' ⟨rfl, hb⟩; have hsz := hb.size))
    go_ret2
    exact ⟨by rw [← hm.out]; rfl, (by repeat (first | exact Below.refl _ _ | assumption | refine bstep ?_ (by assumption) | refine Below.drew ?_ | refine Below.alloc ?_ (by first | (simp; done) | (simp; omega) | omega) _ | refine Below.setCell ?_ (by first | (simp; done) | (simp; omega) | omega) _))⟩
  · have e : daaR a f = (a - byM a f) % 256 := by unfold daaR; rw [c]; rfl
    rw [c] at k
    simp only [if_true] at k
    rw [k, e] at hm
    rw [e] at hr ⊢
    have hm := Lib.hid hm
    clear e c
    go_enter Tryd.func16, Tryd.ntmps16
    go_wp2_with (first
      | (go_at_call 35; refine (correct_any _ _ (by assumption) (by assumption) _ hd).mono ?_; rintro e w' ⟨rfl, hb⟩; have hsz := hb.size)
      | (go_at_call 26; refine (evenF_any _ (B8.lo (by assumption)) (B8.hi (by assumption)) _).mono ?_; rintro e w' ⟨rfl, hb⟩; have hsz := hb.size))
    go_ret2
    exact ⟨by rw [← hm.out]; rfl, (by repeat (first | exact Below.refl _ _ | assumption | refine bstep ?_ (by assumption) | refine Below.drew ?_ | refine Below.alloc ?_ (by first | (simp; done) | (simp; omega) | omega) _ | refine Below.setCell ?_ (by first | (simp; done) | (simp; omega) | omega) _))⟩
end Go.Proofs.YtggickkdjjjfdaaDoor
