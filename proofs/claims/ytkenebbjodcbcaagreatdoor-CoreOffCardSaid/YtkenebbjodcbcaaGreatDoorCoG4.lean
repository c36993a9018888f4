/- Contracts and facts that the claim's proof wants (several texts in one). -/
import Derived.Deep.RegionHeld3
import Derived.Laws.EntriesVeiled
import Derived.WalkKit
import Derived.Maps.Own
import Derived.Deep.DeepHandedRow
import Derived.Test.YtkenebbjodcbcaaGreatDoorCoG2
import Derived.Test.YtkenebbjodcbcaaGreatDoorCoG3
namespace Go.Proofs.YtkenebbjodcbcaaGreatDoor
open Go.RowKit
set_option linter.unusedVariables false
set_option linter.unusedSimpArgs false
set_option maxRecDepth 20000
set_option maxHeartbeats 20000000
theorem opAnd_any (x y : Bool) (w : World) :
    Calls Tryz.prog 328 #[.bool x, .bool y] w fun e w' => e = .returned (.bool (andB x y)) ∧ w = w' := by
  cases x
  all_goals
    go_enter Tryz.func328, Tryz.ntmps328
    go_wp2
    go_ret
    exact ⟨rfl, rfl⟩
theorem opOr_any (x y : Bool) (w : World) :
    Calls Tryz.prog 330 #[.bool x, .bool y] w fun e w' => e = .returned (.bool (orB x y)) ∧ w = w' := by
  cases x
  all_goals
    go_enter Tryz.func330, Tryz.ntmps330
    go_wp2
    go_ret
    exact ⟨rfl, rfl⟩
theorem opXor_any (x y : Bool) (w : World) :
    Calls Tryz.prog 329 #[.bool x, .bool y] w fun e w' => e = .returned (.bool (xorB x y)) ∧ w = w' := by
  go_enter Tryz.func329, Tryz.ntmps329
  go_wp2
  go_ret
  exact ⟨rfl, rfl⟩
theorem mergeAnd_any (a b : Int) (ha : B8 a) (hB : B8 b) (w : World) :
    Calls Tryz.prog 327 #[.int .u8 a, .int .u8 b, .func (.func 328) #[] #[]] w fun e w' => e = .returned (.int .u8 (andR a b)) ∧ Below w.heap.size w w' := by
  go_enter Tryz.func327, Tryz.ntmps327
  go_wp2
  refine wp_loop_rounds 9 ?_
  iterate 9 (rw [rounds_succ]; go_wp2_with (first
    | (go_at_call 258; refine (is_any _ _ (B8.lo (by assumption)) (B8.hi (by assumption)) _).mono ?_; rintro e w' ⟨rfl, rfl⟩)
    | (go_at_call 328; refine (opAnd_any _ _ _).mono ?_; rintro e w' ⟨rfl, rfl⟩)
    | (go_at_call 195; refine (with_any _ _ _ (B8.lo (by repeat (first | exact B8.zero | apply B8.with))) (B8.hi (by repeat (first | exact B8.zero | apply B8.with))) _).mono ?_; rintro e w' ⟨rfl, rfl⟩)))
  go_ret
  exact ⟨ret_int (up_mk _ _ _ _ _ _ _ _), (by repeat (first | exact Below.refl _ _ | assumption | refine bstep ?_ (by assumption) | refine Below.drew ?_ | refine Below.alloc ?_ (by first | (simp; done) | (simp; omega) | omega) _ | refine Below.setCell ?_ (by first | (simp; done) | (simp; omega) | omega) _))⟩
theorem mergeOr_any (a b : Int) (ha : B8 a) (hB : B8 b) (w : World) :
    Calls Tryz.prog 327 #[.int .u8 a, .int .u8 b, .func (.func 330) #[] #[]] w fun e w' => e = .returned (.int .u8 (orR a b)) ∧ Below w.heap.size w w' := by
  go_enter Tryz.func327, Tryz.ntmps327
  go_wp2
  refine wp_loop_rounds 9 ?_
  iterate 9 (rw [rounds_succ]; go_wp2_with (first
    | (go_at_call 258; refine (is_any _ _ (B8.lo (by assumption)) (B8.hi (by assumption)) _).mono ?_; rintro e w' ⟨rfl, rfl⟩)
    | (go_at_call 330; refine (opOr_any _ _ _).mono ?_; rintro e w' ⟨rfl, rfl⟩)
    | (go_at_call 195; refine (with_any _ _ _ (B8.lo (by repeat (first | exact B8.zero | apply B8.with))) (B8.hi (by repeat (first | exact B8.zero | apply B8.with))) _).mono ?_; rintro e w' ⟨rfl, rfl⟩)))
  go_ret
  exact ⟨ret_int (up_mk _ _ _ _ _ _ _ _), (by repeat (first | exact Below.refl _ _ | assumption | refine bstep ?_ (by assumption) | refine Below.drew ?_ | refine Below.alloc ?_ (by first | (simp; done) | (simp; omega) | omega) _ | refine Below.setCell ?_ (by first | (simp; done) | (simp; omega) | omega) _))⟩
theorem mergeXor_any (a b : Int) (ha : B8 a) (hB : B8 b) (w : World) :
    Calls Tryz.prog 327 #[.int .u8 a, .int .u8 b, .func (.func 329) #[] #[]] w fun e w' => e = .returned (.int .u8 (xorR a b)) ∧ Below w.heap.size w w' := by
  go_enter Tryz.func327, Tryz.ntmps327
  go_wp2
  refine wp_loop_rounds 9 ?_
  iterate 9 (rw [rounds_succ]; go_wp2_with (first
    | (go_at_call 258; refine (is_any _ _ (B8.lo (by assumption)) (B8.hi (by assumption)) _).mono ?_; rintro e w' ⟨rfl, rfl⟩)
    | (go_at_call 329; refine (opXor_any _ _ _).mono ?_; rintro e w' ⟨rfl, rfl⟩)
    | (go_at_call 195; refine (with_any _ _ _ (B8.lo (by repeat (first | exact B8.zero | apply B8.with))) (B8.hi (by repeat (first | exact B8.zero | apply B8.with))) _).mono ?_; rintro e w' ⟨rfl, rfl⟩)))
  go_ret
  exact ⟨ret_int (up_mk _ _ _ _ _ _ _ _), (by repeat (first | exact Below.refl _ _ | assumption | refine bstep ?_ (by assumption) | refine Below.drew ?_ | refine Below.alloc ?_ (by first | (simp; done) | (simp; omega) | omega) _ | refine Below.setCell ?_ (by first | (simp; done) | (simp; omega) | omega) _))⟩
theorem and_any (a b : Int) (ha : B8 a) (hB : B8 b) (w : World) :
    Calls Tryz.prog 295 #[.int .u8 a, .int .u8 b] w fun e w' => e = .returned (two (andR a b) (andFl (andR a b))) ∧ Below w.heap.size w w' := by
  have hr : B8 (andR a b) := mergeM_byte ..
  have hm := Lib.hid (andFl_all _ hr)
  go_enter Tryz.func295, Tryz.ntmps295
  go_wp2_with (first
    | (go_at_call 327; refine (mergeAnd_any _ _ (by assumption) (by assumption) _).mono ?_; rintro e w' ⟨rfl, hb⟩; have hsz := hb.size)
    | (go_at_call 254; refine (evenF_any _ (B8.lo (by assumption)) (B8.hi (by assumption)) _).mono ?_; rintro e w' ⟨rfl, hb⟩; have hsz := hb.size))
  go_ret2
  exact ⟨by rw [hm.out]; rfl, (by repeat (first | exact Below.refl _ _ | assumption | refine bstep ?_ (by assumption) | refine Below.drew ?_ | refine Below.alloc ?_ (by first | (simp; done) | (simp; omega) | omega) _ | refine Below.setCell ?_ (by first | (simp; done) | (simp; omega) | omega) _))⟩
theorem or_any (a b : Int) (ha : B8 a) (hB : B8 b) (w : World) :
    Calls Tryz.prog 297 #[.int .u8 a, .int .u8 b] w fun e w' => e = .returned (two (orR a b) (evenFM (orR a b))) ∧ Below w.heap.size w w' := by
  have hr : B8 (orR a b) := mergeM_byte ..
  go_enter Tryz.func297, Tryz.ntmps297
  go_wp2_with (first
    | (go_at_call 327; refine (mergeOr_any _ _ (by assumption) (by assumption) _).mono ?_; rintro e w' ⟨rfl, hb⟩; have hsz := hb.size)
    | (go_at_call 254; refine (evenF_any _ (B8.lo (by assumption)) (B8.hi (by assumption)) _).mono ?_; rintro e w' ⟨rfl, hb⟩; have hsz := hb.size))
  go_ret2
  exact ⟨rfl, (by repeat (first | exact Below.refl _ _ | assumption | refine bstep ?_ (by assumption) | refine Below.drew ?_ | refine Below.alloc ?_ (by first | (simp; done) | (simp; omega) | omega) _ | refine Below.setCell ?_ (by first | (simp; done) | (simp; omega) | omega) _))⟩
theorem xor_any (a b : Int) (ha : B8 a) (hB : B8 b) (w : World) :
    Calls Tryz.prog 296 #[.int .u8 a, .int .u8 b] w fun e w' => e = .returned (two (xorR a b) (evenFM (xorR a b))) ∧ Below w.heap.size w w' := by
  have hr : B8 (xorR a b) := mergeM_byte ..
  go_enter Tryz.func296, Tryz.ntmps296
  go_wp2_with (first
    | (go_at_call 327; refine (mergeXor_any _ _ (by assumption) (by assumption) _).mono ?_; rintro e w' ⟨rfl, hb⟩; have hsz := hb.size)
    | (go_at_call 254; refine (evenF_any _ (B8.lo (by assumption)) (B8.hi (by assumption)) _).mono ?_; rintro e w' ⟨rfl, hb⟩; have hsz := hb.size))
  go_ret2
  exact ⟨rfl, (by repeat (first | exact Below.refl _ _ | assumption | refine bstep ?_ (by assumption) | refine Below.drew ?_ | refine Below.alloc ?_ (by first | (simp; done) | (simp; omega) | omega) _ | refine Below.setCell ?_ (by first | (simp; done) | (simp; omega) | omega) _))⟩
theorem lkeep_any (b f : Int) (hb : B8 b) (hf : B8 f) (w : World) :
    Calls Tryz.prog 324 #[.int .u8 b, .int .u8 f] w fun e w' => e = .returned (.int .u8 (keepM (resultM b) f 196)) ∧ w = w' := by
  have hr := resultM_byte b
  go_enter Tryz.func324, Tryz.ntmps324
  go_wp2_with (first
    | (go_at_call 307; refine (result_any _ (B8.lo (by assumption)) (B8.hi (by assumption)) _).mono ?_; rintro e w' ⟨rfl, rfl⟩)
    | (go_at_call 257; refine (keep_any _ _ _ (B8.lo (by assumption)) (B8.hi (by assumption)) (B8.lo (by assumption)) (B8.hi (by assumption)) (by omega) (by omega) _).mono ?_; rintro e w' ⟨rfl, rfl⟩))
  go_ret
  exact ⟨rfl, rfl⟩
theorem lnot8_fin : ∀ x : Fin 256, bits .xor .u8 IntKind.u8.max (x.val : Int) = 255 - (x.val : Int) := by decide +kernel
theorem lnot8 (b : Int) (hb : B8 b) : bits .xor .u8 IntKind.u8.max b = 255 - b :=
  byte_all (P := fun b => bits .xor .u8 IntKind.u8.max b = 255 - b) lnot8_fin b hb.1 hb.2
theorem cpl_any (a f : Int) (ha : B8 a) (hf : B8 f) (w : World) :
    Calls Tryz.prog 289 #[.int .u8 a, .int .u8 f] w fun e w' => e = .returned (two (255 - a) (cplF a f)) ∧ w = w' := by
  have hr : B8 (255 - a) := ⟨by have := ha.2; omega, by have := ha.1; omega⟩
  have hx := lnot8 a ha
  have hm := Lib.hid (cpl_math a f hf)
  go_enter Tryz.func289, Tryz.ntmps289
  go_wp2_with (first
    | (go_at_call 324; refine (lkeep_any _ _ (by assumption) (by assumption) _).mono ?_; rintro e w' ⟨rfl, rfl⟩))
  go_ret2
  exact ⟨by rw [← hm.out]; rfl, rfl⟩
theorem scf_any (a f : Int) (ha : B8 a) (hf : B8 f) (w : World) :
    Calls Tryz.prog 290 #[.int .u8 a, .int .u8 f] w fun e w' => e = .returned (.int .u8 (scfF a f)) ∧ w = w' := by
  have hm := Lib.hid (scf_math a f)
  go_enter Tryz.func290, Tryz.ntmps290
  go_wp2_with (first
    | (go_at_call 324; refine (lkeep_any _ _ (by assumption) (by assumption) _).mono ?_; rintro e w' ⟨rfl, rfl⟩))
  go_ret
  exact ⟨ret_int hm.out, rfl⟩
theorem ccf_any (a f : Int) (ha : B8 a) (hf : B8 f) (w : World) :
    Calls Tryz.prog 291 #[.int .u8 a, .int .u8 f] w fun e w' => e = .returned (.int .u8 (ccfF a f)) ∧ w = w' := by
  have k := low_all f hf
  cases hc : isM f 0
  · have hm := Lib.hid (ccf_no a f hc)
    have k0 : bits .and .u8 f 1 = 0 := by rw [k, hc]; rfl
    clear k hc
    go_enter Tryz.func291, Tryz.ntmps291
    go_wp2_with (first
      | (go_at_call 290; refine (scf_any _ _ (by assumption) (by assumption) _).mono ?_; rintro e w' ⟨rfl, rfl⟩))
    go_ret
    exact ⟨ret_int hm.out, rfl⟩
  · have hm := Lib.hid (ccf_yes a f hc)
    have k0 : bits .and .u8 f 1 = 1 := by rw [k, hc]; rfl
    clear k hc
    go_enter Tryz.func291, Tryz.ntmps291
    go_wp2_with (first
      | (go_at_call 324; refine (lkeep_any _ _ (by assumption) (by assumption) _).mono ?_; rintro e w' ⟨rfl, rfl⟩))
    go_ret
    exact ⟨ret_int hm.out, rfl⟩
section
def Digits (w : World) : Prop := w.cell? ⟨4, 0, none⟩ = some (.int .u8 16) ∧ w.cell? ⟨4, 1, none⟩ = some (.int .u8 15) ∧ w.cell? ⟨4, 2, none⟩ = some (.int .u8 9) ∧ w.cell? ⟨4, 3, none⟩ = some (.int .u8 6) ∧ w.cell? ⟨4, 4, none⟩ = some (.int .u8 1) ∧ w.cell? ⟨4, 5, none⟩ = some (.int .u8 255) ∧ w.cell? ⟨4, 6, none⟩ = some (.int .u8 153) ∧ w.cell? ⟨4, 7, none⟩ = some (.int .u8 96)
theorem Digits.below {w w' : World} (h : Digits w) (k : Below w.heap.size w w') : Digits w' := by
  obtain ⟨h0, h1, h2, h3, h4, h5, h6, h7⟩ := h
  exact ⟨(k.cell (World.block_lt_of_cell? _ _ h0)).trans h0, (k.cell (World.block_lt_of_cell? _ _ h1)).trans h1, (k.cell (World.block_lt_of_cell? _ _ h2)).trans h2, (k.cell (World.block_lt_of_cell? _ _ h3)).trans h3, (k.cell (World.block_lt_of_cell? _ _ h4)).trans h4, (k.cell (World.block_lt_of_cell? _ _ h5)).trans h5, (k.cell (World.block_lt_of_cell? _ _ h6)).trans h6, (k.cell (World.block_lt_of_cell? _ _ h7)).trans h7⟩
theorem run_index_row {P : Program} {t e : TypeId} {n m : Nat} {fs : Array Field} {cs : Array Value} {k : IntKind} {i : Int} {w : World} (h : P.underlying t = some (.array n e)) (he : P.underlying e = some (.struct fs)) (hs : (sizeOf e).run P w = .ok m w) (hi : 0 ≤ i ∧ i < n) :
    (Instr.index t (.agg cs) (.int k i)).run P w = .ok (.agg (cs.extract (i.toNat * m) (i.toNat * m + m))) w := by
  simp [Instr.index, asIntOf, run_underlying h, hi, hs, part, isAgg, run_underlying he]
theorem ixd_0 (a0 a1 a2 a3 a4 a5 a6 a7 : Value) (w : World) : (Instr.index 235 (.agg #[a0, a1, a2, a3, a4, a5, a6, a7]) (.int .i64 0)).run Tryz.prog w = .ok (.agg #[a0, a1, a2, a3]) w :=
  run_index_row (m := 4) Tryz.underlying235 Tryz.underlying234 (by kernel_rfl) (by decide)
theorem ixd_1 (a0 a1 a2 a3 a4 a5 a6 a7 : Value) (w : World) : (Instr.index 235 (.agg #[a0, a1, a2, a3, a4, a5, a6, a7]) (.int .i64 1)).run Tryz.prog w = .ok (.agg #[a4, a5, a6, a7]) w :=
  run_index_row (m := 4) Tryz.underlying235 Tryz.underlying234 (by kernel_rfl) (by decide)
attribute [local go_sem ↓] ixd_0 ixd_1
theorem flag_fin : ∀ x : Fin 256, bits .and .u8 (x.val : Int) 16 = (if isM (x.val : Int) 4 then 16 else 0) ∧ bits .and .u8 (x.val : Int) 1 = (if isM (x.val : Int) 0 then 1 else 0) ∧ bits .and .u8 (x.val : Int) 15 = (x.val : Int) % 16 ∧ bits .and .u8 (x.val : Int) 255 = (x.val : Int) ∧ bits .and .u8 (x.val : Int) 2 = (if isM (x.val : Int) 1 then 2 else 0) := by decide +kernel
theorem flag_all (f : Int) (h : B8 f) : bits .and .u8 f 16 = (if isM f 4 then 16 else 0) ∧ bits .and .u8 f 1 = (if isM f 0 then 1 else 0) ∧ bits .and .u8 f 15 = f % 16 ∧ bits .and .u8 f 255 = f ∧ bits .and .u8 f 2 = (if isM f 1 then 2 else 0) :=
  byte_all (P := fun f => bits .and .u8 f 16 = (if isM f 4 then 16 else 0) ∧ bits .and .u8 f 1 = (if isM f 0 then 1 else 0) ∧ bits .and .u8 f 15 = f % 16 ∧ bits .and .u8 f 255 = f ∧ bits .and .u8 f 2 = (if isM f 1 then 2 else 0)) flag_fin f h.1 h.2
def wrongM (a f : Int) : Int := (if wrongLow a f then 16 else 0) + (if wrongHigh a f then 1 else 0)
theorem or_17 : bits .or .u8 0 16 = 16 ∧ bits .or .u8 16 1 = 17 ∧ bits .or .u8 0 1 = 1 := by decide +kernel
theorem correct_any (a f : Int) (ha : B8 a) (hf : B8 f) (w : World) (hd : Digits w) :
    Calls Tryz.prog 323 #[.int .u8 a, .int .u8 f] w fun e w' => e = .returned (two (byM a f) (wrongM a f)) ∧ Below w.heap.size w w' := by
  obtain ⟨d0, d1, d2, d3, d4, d5, d6, d7⟩ := hd
  obtain ⟨k1, k2, _, _, _⟩ := flag_all f hf
  obtain ⟨_, _, k3, k4, _⟩ := flag_all a ha
  obtain ⟨o1, o2, o3⟩ := or_17
  have a0 := ha.1
  have a1 := ha.2
  by_cases c2 : 9 < a % 16 <;> by_cases c4 : 153 < a <;> cases c1 : isM f 4 <;> cases c3 : isM f 0
  all_goals
    rw [c1] at k1
    rw [c3] at k2
    simp only [if_true, if_false, Bool.false_eq_true] at k1 k2
    have hb : byM a f = (if isM f 4 || decide (9 < a % 16) then 6 else 0) + (if isM f 0 || decide (153 < a) then 96 else 0) := rfl
    have hw : wrongM a f = (if isM f 4 || decide (9 < a % 16) then 16 else 0) + (if isM f 0 || decide (153 < a) then 1 else 0) := rfl
    first | rw [c1, c3, decide_eq_true c2, decide_eq_true c4] at hb hw | rw [c1, c3, decide_eq_true c2, decide_eq_false c4] at hb hw | rw [c1, c3, decide_eq_false c2, decide_eq_true c4] at hb hw | rw [c1, c3, decide_eq_false c2, decide_eq_false c4] at hb hw
    have hb := Lib.hid hb
    have hw := Lib.hid hw
    clear c1 c3
    go_enter Tryz.func323, Tryz.ntmps323
    go_wp2
    refine wp_loop_rounds 3 ?_
    iterate 3 (rw [rounds_succ]; go_wp2)
    go_ret2
    exact ⟨by rw [hb.out, hw.out]; rfl, (by repeat (first | exact Below.refl _ _ | assumption | refine bstep ?_ (by assumption) | refine Below.drew ?_ | refine Below.alloc ?_ (by first | (simp; done) | (simp; omega) | omega) _ | refine Below.setCell ?_ (by first | (simp; done) | (simp; omega) | omega) _))⟩
theorem daa_bits : ∀ b0 b1 b2 b4 b5 n h c : Bool, bits .or .u8 (bits .or .u8 (bits .or .u8 (mkM b0 b1 b2 false b4 b5 false false) (if n then 2 else 0)) (if h then 16 else 0)) (if c then 1 else 0) = mkM b0 b1 b2 h b4 b5 n c := by decide +kernel
theorem wrong_low (a f : Int) : bits .and .u8 (wrongM a f) 1 = if wrongHigh a f then 1 else 0 := by
  unfold wrongM
  generalize wrongLow a f = x
  generalize wrongHigh a f = y
  revert x y
  decide +kernel
theorem daa_math (a f : Int) (ha : B8 a) (hf : B8 f) :
    bits .or .u8 (bits .or .u8 (bits .or .u8 (evenFM (daaR a f)) (bits .and .u8 f 2)) (bits .and .u8 (bits .xor .u8 a (daaR a f)) 16)) (bits .and .u8 (wrongM a f) 1) = daaF a f := by
  have hr := daaR_byte a f
  have hx := xor_byte a (daaR a f) ha.1 ha.2 hr.1 hr.2
  rw [(flag_all f hf).2.2.2.2, (flag_all _ hx).1, wrong_low]
  have i := isM_xor a (daaR a f) 4 (by omega) ha.1 ha.2 hr.1 hr.2
  rw [show isM (bits .xor .u8 a (daaR a f)) 4 = (isM a 4 != isM (daaR a f) 4) from by simpa using i]
  exact daa_bits _ _ _ _ _ _ _ _
theorem daa_any (a f : Int) (ha : B8 a) (hf : B8 f) (w : World) (hd : Digits w) :
    Calls Tryz.prog 288 #[.int .u8 a, .int .u8 f] w fun e w' => e = .returned (two (daaR a f) (daaF a f)) ∧ Below w.heap.size w w' := by
  have hm := daa_math a f ha hf
  have hr := daaR_byte a f
  have hy := byM_byte a f
  have k := (flag_all f hf).2.2.2.2
  have a0 := ha.1
  have a1 := ha.2
  cases c : isM f 1
  · have e : daaR a f = (a + byM a f) % 256 := by unfold daaR; rw [c]; rfl
    rw [c] at k
    simp only [if_false, Bool.false_eq_true] at k
    rw [k, e] at hm
    rw [e] at hr ⊢
    have hm := Lib.hid hm
    clear e c
    go_enter Tryz.func288, Tryz.ntmps288
    go_wp2_with (first
      | (go_at_call 323; refine (correct_any _ _ (by assumption) (by assumption) _ hd).mono ?_; rintro e w' ⟨rfl, hb⟩; have hsz := hb.size)
      | (go_at_call 254; refine (evenF_any _ (B8.lo (by assumption)) (B8.hi (by assumption)) _).mono ?_; rintro e w' ⟨rfl, hb⟩; have hsz := hb.size))
    go_ret2
    exact ⟨by rw [← hm.out]; rfl, (by repeat (first | exact Below.refl _ _ | assumption | refine bstep ?_ (by assumption) | refine Below.drew ?_ | refine Below.alloc ?_ (by first | (simp; done) | (simp; omega) | omega) _ | refine Below.setCell ?_ (by first | (simp; done) | (simp; omega) | omega) _))⟩
  · have e : daaR a f = (a - byM a f) % 256 := by unfold daaR; rw [c]; rfl
    rw [c] at k
    simp only [if_true] at k
    rw [k, e] at hm
    rw [e] at hr ⊢
    have hm := Lib.hid hm
    clear e c
    go_enter Tryz.func288, Tryz.ntmps288
    go_wp2_with (first
      | (go_at_call 323; refine (correct_any _ _ (by assumption) (by assumption) _ hd).mono ?_; rintro e w' ⟨rfl, hb⟩; have hsz := hb.size)
      | (go_at_call 254; refine (evenF_any _ (B8.lo (by assumption)) (B8.hi (by assumption)) _).mono ?_; rintro e w' ⟨rfl, hb⟩; have hsz := hb.size))
    go_ret2
    exact ⟨by rw [← hm.out]; rfl, (by repeat (first | exact Below.refl _ _ | assumption | refine bstep ?_ (by assumption) | refine Below.drew ?_ | refine Below.alloc ?_ (by first | (simp; done) | (simp; omega) | omega) _ | refine Below.setCell ?_ (by first | (simp; done) | (simp; omega) | omega) _))⟩
end
theorem setBlock_top (W : World) (o o' : Obj) : ({ W.alloc o with heap := (W.alloc o).heap.setIfInBounds W.heap.size o' } : World) = W.alloc o' := by
  have e : (W.heap.push o).setIfInBounds W.heap.size o' = W.heap.push o' := by
    apply Array.ext
    · simp
    · intro i h1 h2
      simp at h1 h2
      by_cases hi : i = W.heap.size
      · subst hi; simp
      · rw [Array.getElem_setIfInBounds, Array.getElem_push_lt (by omega), Array.getElem_push_lt (by omega), if_neg (by omega)]
        simpa using h1
  show ({ W with heap := (W.heap.push o).setIfInBounds W.heap.size o' } : World) = { W with heap := W.heap.push o' }
  rw [e]
theorem run_insert_top {P : Program} (W : World) (t kt et : TypeId) (ht : P.underlying t = some (.map kt et)) (hk : P.underlying kt = some (.int .i64)) (es : List MapEntry) (clock : Nat) (n : Int) (val : Value) (b : Nat)
    (hb : b = W.heap.size) (hnew : Instr.findNow (.int .i64) (.int .i64 n) es 0 = some none) :
    (Instr.mapUpdate t (.map (some b)) (.int .i64 n) val).run P (W.alloc (.map es.toArray clock)) = .ok () (W.alloc (.map (es ++ [({ key := .int .i64 n, val := val, born := clock } : MapEntry)]).toArray (clock + 1))) := by
  subst hb
  have hb := (MapKept.heap_alloc W (.map es.toArray clock)).1
  simp [Instr.mapUpdate, run_underlying ht, MapKept.run_getObj_map hb, MapKept.run_checkKey hk (k := .int .i64 n) (by simp [MapKept.IsKey]) false 9999, MapKept.run_findKey hk hnew, MapKept.run_setObj_map _ hb, Result.andThen]
  exact setBlock_top W _ _
theorem run_look {P : Program} {W : World} {t kt et : TypeId} (ht : P.underlying t = some (.map kt et)) (hk : P.underlying kt = some (.int .i64)) {es : Array MapEntry} {clock M : Nat} (hb : W.heap[M]? = some (.map es clock)) {n : Int} {j : Nat} {v : Value}
    (hf : Instr.findNow (.int .i64) (.int .i64 n) es.toList 0 = some (some (j, v))) : (Instr.lookup t (.map (some M)) (.int .i64 n) true).run P W = .ok (.tuple #[v, .bool true]) W := by
  simp [Instr.lookup, run_underlying ht, MapKept.run_getObj_map hb, MapKept.run_checkKey hk (k := .int .i64 n) (by simp [MapKept.IsKey]) _ 9999, MapKept.run_findKey hk hf, Result.andThen]
theorem run_look_no {P : Program} {W : World} {t kt et : TypeId} (ht : P.underlying t = some (.map kt et)) (hk : P.underlying kt = some (.int .i64)) {es : Array MapEntry} {clock M : Nat} (hb : W.heap[M]? = some (.map es clock)) {n : Int} {z : Value}
    (hf : Instr.findNow (.int .i64) (.int .i64 n) es.toList 0 = some none) (hz : (zeroValue et).run P W = .ok z W) : (Instr.lookup t (.map (some M)) (.int .i64 n) true).run P W = .ok (.tuple #[z, .bool false]) W := by
  simp [Instr.lookup, run_underlying ht, MapKept.run_getObj_map hb, MapKept.run_checkKey hk (k := .int .i64 n) (by simp [MapKept.IsKey]) _ 9999, MapKept.run_findKey hk hf, hz, Result.andThen]
section
theorem ins_0 (v0 : Value) (W : World) (b : Nat) (hb : b = W.heap.size) :
    (Instr.mapUpdate 198 (.map (some b)) (.int .i64 0) v0).run Tryz.prog (W.alloc (.map #[] 0)) = .ok () (W.alloc (.map #[⟨.int .i64 0, v0, 0⟩] 1)) :=
  run_insert_top W _ _ _ Tryz.underlying198 Tryz.underlying3 _ _ _ _ b hb rfl
theorem ins_1 (v0 v1 : Value) (W : World) (b : Nat) (hb : b = W.heap.size) :
    (Instr.mapUpdate 198 (.map (some b)) (.int .i64 1) v1).run Tryz.prog (W.alloc (.map #[⟨.int .i64 0, v0, 0⟩] 1)) = .ok () (W.alloc (.map #[⟨.int .i64 0, v0, 0⟩, ⟨.int .i64 1, v1, 1⟩] 2)) :=
  run_insert_top W _ _ _ Tryz.underlying198 Tryz.underlying3 _ _ _ _ b hb rfl
theorem ins_2 (v0 v1 v2 : Value) (W : World) (b : Nat) (hb : b = W.heap.size) :
    (Instr.mapUpdate 198 (.map (some b)) (.int .i64 2) v2).run Tryz.prog (W.alloc (.map #[⟨.int .i64 0, v0, 0⟩, ⟨.int .i64 1, v1, 1⟩] 2)) = .ok () (W.alloc (.map #[⟨.int .i64 0, v0, 0⟩, ⟨.int .i64 1, v1, 1⟩, ⟨.int .i64 2, v2, 2⟩] 3)) :=
  run_insert_top W _ _ _ Tryz.underlying198 Tryz.underlying3 _ _ _ _ b hb rfl
theorem ins_3 (v0 v1 v2 v3 : Value) (W : World) (b : Nat) (hb : b = W.heap.size) :
    (Instr.mapUpdate 198 (.map (some b)) (.int .i64 3) v3).run Tryz.prog (W.alloc (.map #[⟨.int .i64 0, v0, 0⟩, ⟨.int .i64 1, v1, 1⟩, ⟨.int .i64 2, v2, 2⟩] 3)) = .ok () (W.alloc (.map #[⟨.int .i64 0, v0, 0⟩, ⟨.int .i64 1, v1, 1⟩, ⟨.int .i64 2, v2, 2⟩, ⟨.int .i64 3, v3, 3⟩] 4)) :=
  run_insert_top W _ _ _ Tryz.underlying198 Tryz.underlying3 _ _ _ _ b hb rfl
theorem ins_4 (v0 v1 v2 v3 v4 : Value) (W : World) (b : Nat) (hb : b = W.heap.size) :
    (Instr.mapUpdate 198 (.map (some b)) (.int .i64 4) v4).run Tryz.prog (W.alloc (.map #[⟨.int .i64 0, v0, 0⟩, ⟨.int .i64 1, v1, 1⟩, ⟨.int .i64 2, v2, 2⟩, ⟨.int .i64 3, v3, 3⟩] 4)) = .ok () (W.alloc (.map #[⟨.int .i64 0, v0, 0⟩, ⟨.int .i64 1, v1, 1⟩, ⟨.int .i64 2, v2, 2⟩, ⟨.int .i64 3, v3, 3⟩, ⟨.int .i64 4, v4, 4⟩] 5)) :=
  run_insert_top W _ _ _ Tryz.underlying198 Tryz.underlying3 _ _ _ _ b hb rfl
theorem ins_5 (v0 v1 v2 v3 v4 v5 : Value) (W : World) (b : Nat) (hb : b = W.heap.size) :
    (Instr.mapUpdate 198 (.map (some b)) (.int .i64 5) v5).run Tryz.prog (W.alloc (.map #[⟨.int .i64 0, v0, 0⟩, ⟨.int .i64 1, v1, 1⟩, ⟨.int .i64 2, v2, 2⟩, ⟨.int .i64 3, v3, 3⟩, ⟨.int .i64 4, v4, 4⟩] 5)) = .ok () (W.alloc (.map #[⟨.int .i64 0, v0, 0⟩, ⟨.int .i64 1, v1, 1⟩, ⟨.int .i64 2, v2, 2⟩, ⟨.int .i64 3, v3, 3⟩, ⟨.int .i64 4, v4, 4⟩, ⟨.int .i64 5, v5, 5⟩] 6)) :=
  run_insert_top W _ _ _ Tryz.underlying198 Tryz.underlying3 _ _ _ _ b hb rfl
theorem ins_6 (v0 v1 v2 v3 v4 v5 v6 : Value) (W : World) (b : Nat) (hb : b = W.heap.size) :
    (Instr.mapUpdate 198 (.map (some b)) (.int .i64 6) v6).run Tryz.prog (W.alloc (.map #[⟨.int .i64 0, v0, 0⟩, ⟨.int .i64 1, v1, 1⟩, ⟨.int .i64 2, v2, 2⟩, ⟨.int .i64 3, v3, 3⟩, ⟨.int .i64 4, v4, 4⟩, ⟨.int .i64 5, v5, 5⟩] 6)) = .ok () (W.alloc (.map #[⟨.int .i64 0, v0, 0⟩, ⟨.int .i64 1, v1, 1⟩, ⟨.int .i64 2, v2, 2⟩, ⟨.int .i64 3, v3, 3⟩, ⟨.int .i64 4, v4, 4⟩, ⟨.int .i64 5, v5, 5⟩, ⟨.int .i64 6, v6, 6⟩] 7)) :=
  run_insert_top W _ _ _ Tryz.underlying198 Tryz.underlying3 _ _ _ _ b hb rfl
theorem ins_7 (v0 v1 v2 v3 v4 v5 v6 v7 : Value) (W : World) (b : Nat) (hb : b = W.heap.size) :
    (Instr.mapUpdate 198 (.map (some b)) (.int .i64 7) v7).run Tryz.prog (W.alloc (.map #[⟨.int .i64 0, v0, 0⟩, ⟨.int .i64 1, v1, 1⟩, ⟨.int .i64 2, v2, 2⟩, ⟨.int .i64 3, v3, 3⟩, ⟨.int .i64 4, v4, 4⟩, ⟨.int .i64 5, v5, 5⟩, ⟨.int .i64 6, v6, 6⟩] 7)) = .ok () (W.alloc (.map #[⟨.int .i64 0, v0, 0⟩, ⟨.int .i64 1, v1, 1⟩, ⟨.int .i64 2, v2, 2⟩, ⟨.int .i64 3, v3, 3⟩, ⟨.int .i64 4, v4, 4⟩, ⟨.int .i64 5, v5, 5⟩, ⟨.int .i64 6, v6, 6⟩, ⟨.int .i64 7, v7, 7⟩] 8)) :=
  run_insert_top W _ _ _ Tryz.underlying198 Tryz.underlying3 _ _ _ _ b hb rfl
attribute [local go_sem] ins_0 ins_1 ins_2 ins_3 ins_4 ins_5 ins_6 ins_7
abbrev fnOut (O : Nat) : Value := .func (.func 331) #[] #[.pointer (some ⟨O, 0, none⟩)]
abbrev fnCarry (F : Nat) : Value := .func (.func 332) #[] #[.pointer (some ⟨F, 0, none⟩)]
abbrev fnZero : Value := .func (.func 333) #[] #[]
abbrev fnTop (B : Nat) : Value := .func (.func 334) #[] #[.pointer (some ⟨B, 0, none⟩)]
abbrev fnOne : Value := .func (.func 335) #[] #[]
def kindEnts (B F O : Nat) : Array MapEntry := #[⟨.int .i64 0, fnOut O, 0⟩, ⟨.int .i64 1, fnOut O, 1⟩, ⟨.int .i64 2, fnCarry F, 2⟩, ⟨.int .i64 3, fnCarry F, 3⟩, ⟨.int .i64 4, fnZero, 4⟩, ⟨.int .i64 5, fnTop B, 5⟩, ⟨.int .i64 6, fnOne, 6⟩, ⟨.int .i64 7, fnZero, 7⟩]
def Kinds (w : World) (B F O M : Nat) (b f : Int) (o : Bool) : Prop :=
  (w.cell? ⟨B, 0, none⟩ = some (.int .u8 b) ∧ w.cell? ⟨F, 0, none⟩ = some (.int .u8 f) ∧ w.cell? ⟨O, 0, none⟩ = some (.bool o)) ∧ w.heap[M]? = some (.map (kindEnts B F O) 8)
theorem entering_any (b f : Int) (o : Bool) (w : World) :
    Calls Tryz.prog 305 #[.int .u8 b, .int .u8 f, .bool o] w fun e w' => ∃ B F O M, e = .returned (.map (some M)) ∧ Kinds w' B F O M b f o ∧ Below w.heap.size w w' := by
  have hmm := @run_makeMap Tryz.prog
  go_enter Tryz.func305, Tryz.ntmps305
  go_wp2
  go_ret
  have c1 := cell_new w (.int .u8 b) 5
  have c2 := cell_new (w.alloc (.cells #[.int .u8 b] 5)) (.int .u8 f) 5
  have c3 := cell_new ((w.alloc (.cells #[.int .u8 b] 5)).alloc (.cells #[.int .u8 f] 5)) (.bool o) 4
  simp only [World.size_alloc] at c2 c3
  refine ⟨w.heap.size, w.heap.size + 1, w.heap.size + 1 + 1, w.heap.size + 1 + 1 + 1, rfl, ⟨⟨cell_under _ _ (cell_under _ _ (cell_under _ _ c1)), cell_under _ _ (cell_under _ _ c2), cell_under _ _ c3⟩, ?_⟩, (by repeat (first | exact Below.refl _ _ | assumption | refine bstep ?_ (by assumption) | refine Below.drew ?_ | refine Below.alloc ?_ (by first | (simp; done) | (simp; omega) | omega) _ | refine Below.setCell ?_ (by first | (simp; done) | (simp; omega) | omega) _))⟩
  have h := (MapKept.heap_alloc (((w.alloc (.cells #[.int .u8 b] 5)).alloc (.cells #[.int .u8 f] 5)).alloc (.cells #[.bool o] 4)) (.map (kindEnts w.heap.size (w.heap.size + 1) (w.heap.size + 1 + 1)) 8)).1
  simp only [World.size_alloc] at h
  exact h
theorem fnOut_any (O : Nat) (o : Bool) (w : World) (h : w.cell? ⟨O, 0, none⟩ = some (.bool o)) :
    Calls Tryz.prog 331 #[.pointer (some ⟨O, 0, none⟩)] w fun e w' => e = .returned (.bool o) ∧ w = w' := by
  go_enter Tryz.func331, Tryz.ntmps331
  go_wp2
  go_ret
  exact ⟨rfl, rfl⟩
theorem low_bit (f : Int) (h : B8 f) : (bits .and .u8 f 1 != 0) = isM f 0 := by
  rw [low_all f h]
  cases isM f 0 <;> rfl
theorem fnCarry_any (F : Nat) (f : Int) (hf : B8 f) (w : World) (h : w.cell? ⟨F, 0, none⟩ = some (.int .u8 f)) :
    Calls Tryz.prog 332 #[.pointer (some ⟨F, 0, none⟩)] w fun e w' => e = .returned (.bool (isM f 0)) ∧ w = w' := by
  have hl := Lib.hid (low_bit f hf)
  go_enter Tryz.func332, Tryz.ntmps332
  go_wp2
  go_ret
  exact ⟨ret_bool hl.out, rfl⟩
theorem fnZero_any (w : World) :
    Calls Tryz.prog 333 #[] w fun e w' => e = .returned (.bool false) ∧ w = w' := by
  go_enter Tryz.func333, Tryz.ntmps333
  go_wp2
  go_ret
  exact ⟨rfl, rfl⟩
theorem fnTop_any (B : Nat) (b : Int) (hb : B8 b) (w : World) (h : w.cell? ⟨B, 0, none⟩ = some (.int .u8 b)) :
    Calls Tryz.prog 334 #[.pointer (some ⟨B, 0, none⟩)] w fun e w' => e = .returned (.bool (isM b 7)) ∧ w = w' := by
  go_enter Tryz.func334, Tryz.ntmps334
  go_wp2_with (first
    | (go_at_call 258; refine (is_any _ _ (B8.lo (by assumption)) (B8.hi (by assumption)) _).mono ?_; rintro e w' ⟨rfl, rfl⟩))
  go_ret
  exact ⟨rfl, rfl⟩
theorem fnOne_any (w : World) :
    Calls Tryz.prog 335 #[] w fun e w' => e = .returned (.bool true) ∧ w = w' := by
  go_enter Tryz.func335, Tryz.ntmps335
  go_wp2
  go_ret
  exact ⟨rfl, rfl⟩
theorem look_0 {w : World} {B F O M : Nat} (h : w.heap[M]? = some (.map (kindEnts B F O) 8)) : (Instr.lookup 198 (.map (some M)) (.int .i64 0) true).run Tryz.prog w = .ok (.tuple #[fnOut O, .bool true]) w :=
  run_look Tryz.underlying198 Tryz.underlying3 h rfl
theorem look_1 {w : World} {B F O M : Nat} (h : w.heap[M]? = some (.map (kindEnts B F O) 8)) : (Instr.lookup 198 (.map (some M)) (.int .i64 1) true).run Tryz.prog w = .ok (.tuple #[fnOut O, .bool true]) w :=
  run_look Tryz.underlying198 Tryz.underlying3 h rfl
theorem look_2 {w : World} {B F O M : Nat} (h : w.heap[M]? = some (.map (kindEnts B F O) 8)) : (Instr.lookup 198 (.map (some M)) (.int .i64 2) true).run Tryz.prog w = .ok (.tuple #[fnCarry F, .bool true]) w :=
  run_look Tryz.underlying198 Tryz.underlying3 h rfl
theorem look_3 {w : World} {B F O M : Nat} (h : w.heap[M]? = some (.map (kindEnts B F O) 8)) : (Instr.lookup 198 (.map (some M)) (.int .i64 3) true).run Tryz.prog w = .ok (.tuple #[fnCarry F, .bool true]) w :=
  run_look Tryz.underlying198 Tryz.underlying3 h rfl
theorem look_4 {w : World} {B F O M : Nat} (h : w.heap[M]? = some (.map (kindEnts B F O) 8)) : (Instr.lookup 198 (.map (some M)) (.int .i64 4) true).run Tryz.prog w = .ok (.tuple #[fnZero, .bool true]) w :=
  run_look Tryz.underlying198 Tryz.underlying3 h rfl
theorem look_5 {w : World} {B F O M : Nat} (h : w.heap[M]? = some (.map (kindEnts B F O) 8)) : (Instr.lookup 198 (.map (some M)) (.int .i64 5) true).run Tryz.prog w = .ok (.tuple #[fnTop B, .bool true]) w :=
  run_look Tryz.underlying198 Tryz.underlying3 h rfl
theorem look_6 {w : World} {B F O M : Nat} (h : w.heap[M]? = some (.map (kindEnts B F O) 8)) : (Instr.lookup 198 (.map (some M)) (.int .i64 6) true).run Tryz.prog w = .ok (.tuple #[fnOne, .bool true]) w :=
  run_look Tryz.underlying198 Tryz.underlying3 h rfl
theorem look_7 {w : World} {B F O M : Nat} (h : w.heap[M]? = some (.map (kindEnts B F O) 8)) : (Instr.lookup 198 (.map (some M)) (.int .i64 7) true).run Tryz.prog w = .ok (.tuple #[fnZero, .bool true]) w :=
  run_look Tryz.underlying198 Tryz.underlying3 h rfl
theorem look_no {w : World} {B F O M : Nat} {k : Int} (hk : k < 0 ∨ 8 ≤ k) (h : w.heap[M]? = some (.map (kindEnts B F O) 8)) : (Instr.lookup 198 (.map (some M)) (.int .i64 k) true).run Tryz.prog w = .ok (.tuple #[.nilFunc, .bool false]) w :=
  run_look_no Tryz.underlying198 Tryz.underlying3 h (by
    have n0 : (k == 0) = false := by simp; omega
    have n1 : (k == 1) = false := by simp; omega
    have n2 : (k == 2) = false := by simp; omega
    have n3 : (k == 3) = false := by simp; omega
    have n4 : (k == 4) = false := by simp; omega
    have n5 : (k == 5) = false := by simp; omega
    have n6 : (k == 6) = false := by simp; omega
    have n7 : (k == 7) = false := by simp; omega
    simp only [kindEnts, Instr.findNow, Instr.sameNow, if_true, n0, n1, n2, n3, n4, n5, n6, n7]) (by kernel_rfl)
end
def Courses (w : World) : Prop := w.cell? ⟨2, 0, none⟩ = some (.int .i64 1) ∧ w.cell? ⟨2, 1, none⟩ = some (.int .i64 7) ∧ w.cell? ⟨2, 2, none⟩ = some (.int .i64 0) ∧ w.cell? ⟨2, 3, none⟩ = some (.int .i64 (-1)) ∧ w.cell? ⟨2, 4, none⟩ = some (.int .i64 0) ∧ w.cell? ⟨2, 5, none⟩ = some (.int .i64 7)
theorem Courses.below {w w' : World} (h : Courses w) (k : Below w.heap.size w w') : Courses w' := by
  obtain ⟨h0, h1, h2, h3, h4, h5⟩ := h
  exact ⟨cell_kept h0 k, cell_kept h1 k, cell_kept h2 k, cell_kept h3 k, cell_kept h4 k, cell_kept h5 k⟩
theorem and1_i64 (y : Int) : bits BinOp.and IntKind.i64 y 1 = y % 2 := by
  have e : (BitVec.ofInt 64 y &&& BitVec.ofInt 64 1).toNat = (y % 2).toNat := by
    rw [BitVec.toNat_and, show (BitVec.ofInt 64 1).toNat = 2 ^ 1 - 1 by decide, Nat.and_two_pow_sub_one_eq_mod, BitVec.toNat_ofInt]
    omega
  show IntKind.i64.wrap ((BitVec.ofInt 64 y &&& BitVec.ofInt 64 1).toNat : Int) = _
  rw [e, IntKind.wrap_i64]
  omega
theorem scarry_any (o : Bool) (w : World) :
    Calls Tryz.prog 255 #[.bool o] w fun e w' => e = .returned (.int .u8 (one o)) ∧ w = w' := by
  cases o
  all_goals
    go_enter Tryz.func255, Tryz.ntmps255
    go_wp2
    go_ret
    exact ⟨rfl, rfl⟩
theorem new3 (w : World) (u v x : Value) (t : TypeId) : (w.alloc (.cells #[u, v, x] t)).cell? ⟨w.heap.size, 0, none⟩ = some u ∧ (w.alloc (.cells #[u, v, x] t)).cell? ⟨w.heap.size, 1, none⟩ = some v ∧ (w.alloc (.cells #[u, v, x] t)).cell? ⟨w.heap.size, 2, none⟩ = some x := by
  have e : ∀ o : Obj, (w.alloc o).heap[w.heap.size]? = some o := fun o => by
    show (w.heap.push _)[w.heap.size]? = _
    simp
  refine ⟨?_, ?_, ?_⟩ <;> (simp only [World.cell?, e]; rfl)
theorem hold3 {w w' : World} {p q r : Addr} {u v x : Value} (k : Below w.heap.size w w') (h : w.cell? p = some u ∧ w.cell? q = some v ∧ w.cell? r = some x) : w'.cell? p = some u ∧ w'.cell? q = some v ∧ w'.cell? r = some x :=
  ⟨cell_kept h.1 k, cell_kept h.2.1 k, cell_kept h.2.2 k⟩
theorem last3 {p q r : Prop} (h : p ∧ q ∧ r) : r := h.2.2
abbrev moved (r : Int) (o k : Bool) : Value := .tuple #[.int .u8 r, .bool o, .bool k]
theorem move_0 (b f : Int) (hb : B8 b) (hf : B8 f) (w : World) (hd : Courses w) :
    Calls Tryz.prog 253 #[.int .i64 0, .int .u8 b, .int .u8 f] w fun e w' => e = .returned (moved (shM 0 b f) (soutM 0 b) true) ∧ Below w.heap.size w w' := by
  have hB := hb
  clear hb
  obtain ⟨d0, d1, d2, d3, d4, d5⟩ := hd
  have ka := and1_i64 0
  simp only [show (0 : Int) % 2 = 0 by decide] at ka
  have ht : B8 (turnM b 1) := turnM_byte b 1 hB.1 hB.2
  go_enter Tryz.func253, Tryz.ntmps253
  go_wp2_with (first
    | (go_at_call 258; refine (is_any _ _ (B8.lo (by assumption)) (B8.hi (by assumption)) _).mono ?_; rintro e w' ⟨rfl, rfl⟩)
    | (go_at_call 305; refine (entering_any _ _ _ _).mono ?_; rintro e w' ⟨B, F, O, M, rfl, ⟨⟨c1, c2, c3⟩, hm⟩, hb⟩; have hl := look_0 hm))
  have k0 : w'.cell? ⟨w.heap.size, 0, none⟩ = some (.int .i64 1) := cell_kept (new3 w _ _ _ _).1 hb
  have k2 : w'.cell? ⟨w.heap.size, 2, none⟩ = some (.int .i64 0) := cell_kept (new3 w _ _ _ _).2.2 hb
  have hsz := hb.size
  simp only [World.size_alloc] at hsz
  have hs : w'.cell? ⟨w.heap.size, 0, none⟩ = some (.int .i64 1) ∧ w'.cell? ⟨w.heap.size, 2, none⟩ = some (.int .i64 0) ∧ w'.cell? ⟨O, 0, none⟩ = some (.bool (isM b 7)) := ⟨k0, k2, c3⟩
  have hb0 : Below w.heap.size w w' := (by repeat (first | exact Below.refl _ _ | assumption | refine bstep ?_ (by assumption) | refine Below.drew ?_ | refine Below.alloc ?_ (by first | (simp; done) | (simp; omega) | omega) _ | refine Below.setCell ?_ (by first | (simp; done) | (simp; omega) | omega) _))
  clear hb k0 k2 c1 c2 c3 hl hm d0 d1 d2 d3 d4 d5 ka
  go_region_held3 (fun w' => w'.cell? ⟨w.heap.size, 0, none⟩ = some (.int .i64 1) ∧ w'.cell? ⟨w.heap.size, 2, none⟩ = some (.int .i64 0) ∧ w'.cell? ⟨O, 0, none⟩ = some (.bool (isM b 7))) (first | go_keep | exact hold3 hb (by assumption))
    (first
    | (go_at_call 306; refine (turn_any _ _ (B8.lo (by assumption)) (B8.hi (by assumption)) _).mono ?_; rintro e w' ⟨rfl, hb⟩; have hsz := hb.size)
    | (go_at_call 331; refine (fnOut_any O (isM b 7) _ (last3 (by assumption))).mono ?_; rintro e w' ⟨rfl, rfl⟩)
    | (go_at_call 195; refine (with_any _ _ _ (B8.lo (by assumption)) (B8.hi (by assumption)) _).mono ?_; rintro e w' ⟨rfl, rfl⟩))
  go_wp2_with fail
  go_ret3
  exact ⟨rfl, (by repeat (first | exact Below.refl _ _ | assumption | refine bstep ?_ (by assumption) | refine Below.drew ?_ | refine Below.alloc ?_ (by first | (simp; done) | (simp; omega) | omega) _ | refine Below.setCell ?_ (by first | (simp; done) | (simp; omega) | omega) _))⟩
theorem move_1 (b f : Int) (hb : B8 b) (hf : B8 f) (w : World) (hd : Courses w) :
    Calls Tryz.prog 253 #[.int .i64 1, .int .u8 b, .int .u8 f] w fun e w' => e = .returned (moved (shM 1 b f) (soutM 1 b) true) ∧ Below w.heap.size w w' := by
  have hB := hb
  clear hb
  obtain ⟨d0, d1, d2, d3, d4, d5⟩ := hd
  have ka := and1_i64 1
  simp only [show (1 : Int) % 2 = 1 by decide] at ka
  have ht : B8 (turnM b (-1)) := turnM_byte b (-1) hB.1 hB.2
  go_enter Tryz.func253, Tryz.ntmps253
  go_wp2_with (first
    | (go_at_call 258; refine (is_any _ _ (B8.lo (by assumption)) (B8.hi (by assumption)) _).mono ?_; rintro e w' ⟨rfl, rfl⟩)
    | (go_at_call 305; refine (entering_any _ _ _ _).mono ?_; rintro e w' ⟨B, F, O, M, rfl, ⟨⟨c1, c2, c3⟩, hm⟩, hb⟩; have hl := look_1 hm))
  have k0 : w'.cell? ⟨w.heap.size, 0, none⟩ = some (.int .i64 (-1)) := cell_kept (new3 w _ _ _ _).1 hb
  have k2 : w'.cell? ⟨w.heap.size, 2, none⟩ = some (.int .i64 7) := cell_kept (new3 w _ _ _ _).2.2 hb
  have hsz := hb.size
  simp only [World.size_alloc] at hsz
  have hs : w'.cell? ⟨w.heap.size, 0, none⟩ = some (.int .i64 (-1)) ∧ w'.cell? ⟨w.heap.size, 2, none⟩ = some (.int .i64 7) ∧ w'.cell? ⟨O, 0, none⟩ = some (.bool (isM b 0)) := ⟨k0, k2, c3⟩
  have hb0 : Below w.heap.size w w' := (by repeat (first | exact Below.refl _ _ | assumption | refine bstep ?_ (by assumption) | refine Below.drew ?_ | refine Below.alloc ?_ (by first | (simp; done) | (simp; omega) | omega) _ | refine Below.setCell ?_ (by first | (simp; done) | (simp; omega) | omega) _))
  clear hb k0 k2 c1 c2 c3 hl hm d0 d1 d2 d3 d4 d5 ka
  go_region_held3 (fun w' => w'.cell? ⟨w.heap.size, 0, none⟩ = some (.int .i64 (-1)) ∧ w'.cell? ⟨w.heap.size, 2, none⟩ = some (.int .i64 7) ∧ w'.cell? ⟨O, 0, none⟩ = some (.bool (isM b 0))) (first | go_keep | exact hold3 hb (by assumption))
    (first
    | (go_at_call 306; refine (turn_any _ _ (B8.lo (by assumption)) (B8.hi (by assumption)) _).mono ?_; rintro e w' ⟨rfl, hb⟩; have hsz := hb.size)
    | (go_at_call 331; refine (fnOut_any O (isM b 0) _ (last3 (by assumption))).mono ?_; rintro e w' ⟨rfl, rfl⟩)
    | (go_at_call 195; refine (with_any _ _ _ (B8.lo (by assumption)) (B8.hi (by assumption)) _).mono ?_; rintro e w' ⟨rfl, rfl⟩))
  go_wp2_with fail
  go_ret3
  exact ⟨rfl, (by repeat (first | exact Below.refl _ _ | assumption | refine bstep ?_ (by assumption) | refine Below.drew ?_ | refine Below.alloc ?_ (by first | (simp; done) | (simp; omega) | omega) _ | refine Below.setCell ?_ (by first | (simp; done) | (simp; omega) | omega) _))⟩
theorem move_2 (b f : Int) (hb : B8 b) (hf : B8 f) (w : World) (hd : Courses w) :
    Calls Tryz.prog 253 #[.int .i64 2, .int .u8 b, .int .u8 f] w fun e w' => e = .returned (moved (shM 2 b f) (soutM 2 b) true) ∧ Below w.heap.size w w' := by
  have hB := hb
  clear hb
  obtain ⟨d0, d1, d2, d3, d4, d5⟩ := hd
  have ka := and1_i64 2
  simp only [show (2 : Int) % 2 = 0 by decide] at ka
  have ht : B8 (turnM b 1) := turnM_byte b 1 hB.1 hB.2
  go_enter Tryz.func253, Tryz.ntmps253
  go_wp2_with (first
    | (go_at_call 258; refine (is_any _ _ (B8.lo (by assumption)) (B8.hi (by assumption)) _).mono ?_; rintro e w' ⟨rfl, rfl⟩)
    | (go_at_call 305; refine (entering_any _ _ _ _).mono ?_; rintro e w' ⟨B, F, O, M, rfl, ⟨⟨c1, c2, c3⟩, hm⟩, hb⟩; have hl := look_2 hm))
  have k0 : w'.cell? ⟨w.heap.size, 0, none⟩ = some (.int .i64 1) := cell_kept (new3 w _ _ _ _).1 hb
  have k2 : w'.cell? ⟨w.heap.size, 2, none⟩ = some (.int .i64 0) := cell_kept (new3 w _ _ _ _).2.2 hb
  have hsz := hb.size
  simp only [World.size_alloc] at hsz
  have hs : w'.cell? ⟨w.heap.size, 0, none⟩ = some (.int .i64 1) ∧ w'.cell? ⟨w.heap.size, 2, none⟩ = some (.int .i64 0) ∧ w'.cell? ⟨F, 0, none⟩ = some (.int .u8 f) := ⟨k0, k2, c2⟩
  have hb0 : Below w.heap.size w w' := (by repeat (first | exact Below.refl _ _ | assumption | refine bstep ?_ (by assumption) | refine Below.drew ?_ | refine Below.alloc ?_ (by first | (simp; done) | (simp; omega) | omega) _ | refine Below.setCell ?_ (by first | (simp; done) | (simp; omega) | omega) _))
  clear hb k0 k2 c1 c2 c3 hl hm d0 d1 d2 d3 d4 d5 ka
  go_region_held3 (fun w' => w'.cell? ⟨w.heap.size, 0, none⟩ = some (.int .i64 1) ∧ w'.cell? ⟨w.heap.size, 2, none⟩ = some (.int .i64 0) ∧ w'.cell? ⟨F, 0, none⟩ = some (.int .u8 f)) (first | go_keep | exact hold3 hb (by assumption))
    (first
    | (go_at_call 306; refine (turn_any _ _ (B8.lo (by assumption)) (B8.hi (by assumption)) _).mono ?_; rintro e w' ⟨rfl, hb⟩; have hsz := hb.size)
    | (go_at_call 332; refine (fnCarry_any F f hf _ (last3 (by assumption))).mono ?_; rintro e w' ⟨rfl, rfl⟩)
    | (go_at_call 195; refine (with_any _ _ _ (B8.lo (by assumption)) (B8.hi (by assumption)) _).mono ?_; rintro e w' ⟨rfl, rfl⟩))
  go_wp2_with fail
  go_ret3
  exact ⟨rfl, (by repeat (first | exact Below.refl _ _ | assumption | refine bstep ?_ (by assumption) | refine Below.drew ?_ | refine Below.alloc ?_ (by first | (simp; done) | (simp; omega) | omega) _ | refine Below.setCell ?_ (by first | (simp; done) | (simp; omega) | omega) _))⟩
theorem move_3 (b f : Int) (hb : B8 b) (hf : B8 f) (w : World) (hd : Courses w) :
    Calls Tryz.prog 253 #[.int .i64 3, .int .u8 b, .int .u8 f] w fun e w' => e = .returned (moved (shM 3 b f) (soutM 3 b) true) ∧ Below w.heap.size w w' := by
  have hB := hb
  clear hb
  obtain ⟨d0, d1, d2, d3, d4, d5⟩ := hd
  have ka := and1_i64 3
  simp only [show (3 : Int) % 2 = 1 by decide] at ka
  have ht : B8 (turnM b (-1)) := turnM_byte b (-1) hB.1 hB.2
  go_enter Tryz.func253, Tryz.ntmps253
  go_wp2_with (first
    | (go_at_call 258; refine (is_any _ _ (B8.lo (by assumption)) (B8.hi (by assumption)) _).mono ?_; rintro e w' ⟨rfl, rfl⟩)
    | (go_at_call 305; refine (entering_any _ _ _ _).mono ?_; rintro e w' ⟨B, F, O, M, rfl, ⟨⟨c1, c2, c3⟩, hm⟩, hb⟩; have hl := look_3 hm))
  have k0 : w'.cell? ⟨w.heap.size, 0, none⟩ = some (.int .i64 (-1)) := cell_kept (new3 w _ _ _ _).1 hb
  have k2 : w'.cell? ⟨w.heap.size, 2, none⟩ = some (.int .i64 7) := cell_kept (new3 w _ _ _ _).2.2 hb
  have hsz := hb.size
  simp only [World.size_alloc] at hsz
  have hs : w'.cell? ⟨w.heap.size, 0, none⟩ = some (.int .i64 (-1)) ∧ w'.cell? ⟨w.heap.size, 2, none⟩ = some (.int .i64 7) ∧ w'.cell? ⟨F, 0, none⟩ = some (.int .u8 f) := ⟨k0, k2, c2⟩
  have hb0 : Below w.heap.size w w' := (by repeat (first | exact Below.refl _ _ | assumption | refine bstep ?_ (by assumption) | refine Below.drew ?_ | refine Below.alloc ?_ (by first | (simp; done) | (simp; omega) | omega) _ | refine Below.setCell ?_ (by first | (simp; done) | (simp; omega) | omega) _))
  clear hb k0 k2 c1 c2 c3 hl hm d0 d1 d2 d3 d4 d5 ka
  go_region_held3 (fun w' => w'.cell? ⟨w.heap.size, 0, none⟩ = some (.int .i64 (-1)) ∧ w'.cell? ⟨w.heap.size, 2, none⟩ = some (.int .i64 7) ∧ w'.cell? ⟨F, 0, none⟩ = some (.int .u8 f)) (first | go_keep | exact hold3 hb (by assumption))
    (first
    | (go_at_call 306; refine (turn_any _ _ (B8.lo (by assumption)) (B8.hi (by assumption)) _).mono ?_; rintro e w' ⟨rfl, hb⟩; have hsz := hb.size)
    | (go_at_call 332; refine (fnCarry_any F f hf _ (last3 (by assumption))).mono ?_; rintro e w' ⟨rfl, rfl⟩)
    | (go_at_call 195; refine (with_any _ _ _ (B8.lo (by assumption)) (B8.hi (by assumption)) _).mono ?_; rintro e w' ⟨rfl, rfl⟩))
  go_wp2_with fail
  go_ret3
  exact ⟨rfl, (by repeat (first | exact Below.refl _ _ | assumption | refine bstep ?_ (by assumption) | refine Below.drew ?_ | refine Below.alloc ?_ (by first | (simp; done) | (simp; omega) | omega) _ | refine Below.setCell ?_ (by first | (simp; done) | (simp; omega) | omega) _))⟩
theorem move_4 (b f : Int) (hb : B8 b) (hf : B8 f) (w : World) (hd : Courses w) :
    Calls Tryz.prog 253 #[.int .i64 4, .int .u8 b, .int .u8 f] w fun e w' => e = .returned (moved (shM 4 b f) (soutM 4 b) true) ∧ Below w.heap.size w w' := by
  have hB := hb
  clear hb
  obtain ⟨d0, d1, d2, d3, d4, d5⟩ := hd
  have ka := and1_i64 4
  simp only [show (4 : Int) % 2 = 0 by decide] at ka
  have ht : B8 (turnM b 1) := turnM_byte b 1 hB.1 hB.2
  go_enter Tryz.func253, Tryz.ntmps253
  go_wp2_with (first
    | (go_at_call 258; refine (is_any _ _ (B8.lo (by assumption)) (B8.hi (by assumption)) _).mono ?_; rintro e w' ⟨rfl, rfl⟩)
    | (go_at_call 305; refine (entering_any _ _ _ _).mono ?_; rintro e w' ⟨B, F, O, M, rfl, ⟨⟨c1, c2, c3⟩, hm⟩, hb⟩; have hl := look_4 hm))
  have k0 : w'.cell? ⟨w.heap.size, 0, none⟩ = some (.int .i64 1) := cell_kept (new3 w _ _ _ _).1 hb
  have k2 : w'.cell? ⟨w.heap.size, 2, none⟩ = some (.int .i64 0) := cell_kept (new3 w _ _ _ _).2.2 hb
  have hsz := hb.size
  simp only [World.size_alloc] at hsz
  have hs : w'.cell? ⟨w.heap.size, 0, none⟩ = some (.int .i64 1) ∧ w'.cell? ⟨w.heap.size, 2, none⟩ = some (.int .i64 0) ∧ w'.cell? ⟨O, 0, none⟩ = some (.bool (isM b 7)) := ⟨k0, k2, c3⟩
  have hb0 : Below w.heap.size w w' := (by repeat (first | exact Below.refl _ _ | assumption | refine bstep ?_ (by assumption) | refine Below.drew ?_ | refine Below.alloc ?_ (by first | (simp; done) | (simp; omega) | omega) _ | refine Below.setCell ?_ (by first | (simp; done) | (simp; omega) | omega) _))
  clear hb k0 k2 c1 c2 c3 hl hm d0 d1 d2 d3 d4 d5 ka
  go_region_held3 (fun w' => w'.cell? ⟨w.heap.size, 0, none⟩ = some (.int .i64 1) ∧ w'.cell? ⟨w.heap.size, 2, none⟩ = some (.int .i64 0) ∧ w'.cell? ⟨O, 0, none⟩ = some (.bool (isM b 7))) (first | go_keep | exact hold3 hb (by assumption))
    (first
    | (go_at_call 306; refine (turn_any _ _ (B8.lo (by assumption)) (B8.hi (by assumption)) _).mono ?_; rintro e w' ⟨rfl, hb⟩; have hsz := hb.size)
    | (go_at_call 333; refine (fnZero_any _).mono ?_; rintro e w' ⟨rfl, rfl⟩)
    | (go_at_call 195; refine (with_any _ _ _ (B8.lo (by assumption)) (B8.hi (by assumption)) _).mono ?_; rintro e w' ⟨rfl, rfl⟩))
  go_wp2_with fail
  go_ret3
  exact ⟨rfl, (by repeat (first | exact Below.refl _ _ | assumption | refine bstep ?_ (by assumption) | refine Below.drew ?_ | refine Below.alloc ?_ (by first | (simp; done) | (simp; omega) | omega) _ | refine Below.setCell ?_ (by first | (simp; done) | (simp; omega) | omega) _))⟩
theorem move_5 (b f : Int) (hb : B8 b) (hf : B8 f) (w : World) (hd : Courses w) :
    Calls Tryz.prog 253 #[.int .i64 5, .int .u8 b, .int .u8 f] w fun e w' => e = .returned (moved (shM 5 b f) (soutM 5 b) true) ∧ Below w.heap.size w w' := by
  have hB := hb
  clear hb
  obtain ⟨d0, d1, d2, d3, d4, d5⟩ := hd
  have ka := and1_i64 5
  simp only [show (5 : Int) % 2 = 1 by decide] at ka
  have ht : B8 (turnM b (-1)) := turnM_byte b (-1) hB.1 hB.2
  go_enter Tryz.func253, Tryz.ntmps253
  go_wp2_with (first
    | (go_at_call 258; refine (is_any _ _ (B8.lo (by assumption)) (B8.hi (by assumption)) _).mono ?_; rintro e w' ⟨rfl, rfl⟩)
    | (go_at_call 305; refine (entering_any _ _ _ _).mono ?_; rintro e w' ⟨B, F, O, M, rfl, ⟨⟨c1, c2, c3⟩, hm⟩, hb⟩; have hl := look_5 hm))
  have k0 : w'.cell? ⟨w.heap.size, 0, none⟩ = some (.int .i64 (-1)) := cell_kept (new3 w _ _ _ _).1 hb
  have k2 : w'.cell? ⟨w.heap.size, 2, none⟩ = some (.int .i64 7) := cell_kept (new3 w _ _ _ _).2.2 hb
  have hsz := hb.size
  simp only [World.size_alloc] at hsz
  have hs : w'.cell? ⟨w.heap.size, 0, none⟩ = some (.int .i64 (-1)) ∧ w'.cell? ⟨w.heap.size, 2, none⟩ = some (.int .i64 7) ∧ w'.cell? ⟨B, 0, none⟩ = some (.int .u8 b) := ⟨k0, k2, c1⟩
  have hb0 : Below w.heap.size w w' := (by repeat (first | exact Below.refl _ _ | assumption | refine bstep ?_ (by assumption) | refine Below.drew ?_ | refine Below.alloc ?_ (by first | (simp; done) | (simp; omega) | omega) _ | refine Below.setCell ?_ (by first | (simp; done) | (simp; omega) | omega) _))
  clear hb k0 k2 c1 c2 c3 hl hm d0 d1 d2 d3 d4 d5 ka
  go_region_held3 (fun w' => w'.cell? ⟨w.heap.size, 0, none⟩ = some (.int .i64 (-1)) ∧ w'.cell? ⟨w.heap.size, 2, none⟩ = some (.int .i64 7) ∧ w'.cell? ⟨B, 0, none⟩ = some (.int .u8 b)) (first | go_keep | exact hold3 hb (by assumption))
    (first
    | (go_at_call 306; refine (turn_any _ _ (B8.lo (by assumption)) (B8.hi (by assumption)) _).mono ?_; rintro e w' ⟨rfl, hb⟩; have hsz := hb.size)
    | (go_at_call 334; refine (fnTop_any B b hB _ (last3 (by assumption))).mono ?_; rintro e w' ⟨rfl, rfl⟩)
    | (go_at_call 195; refine (with_any _ _ _ (B8.lo (by assumption)) (B8.hi (by assumption)) _).mono ?_; rintro e w' ⟨rfl, rfl⟩))
  go_wp2_with fail
  go_ret3
  exact ⟨rfl, (by repeat (first | exact Below.refl _ _ | assumption | refine bstep ?_ (by assumption) | refine Below.drew ?_ | refine Below.alloc ?_ (by first | (simp; done) | (simp; omega) | omega) _ | refine Below.setCell ?_ (by first | (simp; done) | (simp; omega) | omega) _))⟩
theorem move_6 (b f : Int) (hb : B8 b) (hf : B8 f) (w : World) (hd : Courses w) :
    Calls Tryz.prog 253 #[.int .i64 6, .int .u8 b, .int .u8 f] w fun e w' => e = .returned (moved (shM 6 b f) (soutM 6 b) true) ∧ Below w.heap.size w w' := by
  have hB := hb
  clear hb
  obtain ⟨d0, d1, d2, d3, d4, d5⟩ := hd
  have ka := and1_i64 6
  simp only [show (6 : Int) % 2 = 0 by decide] at ka
  have ht : B8 (turnM b 1) := turnM_byte b 1 hB.1 hB.2
  go_enter Tryz.func253, Tryz.ntmps253
  go_wp2_with (first
    | (go_at_call 258; refine (is_any _ _ (B8.lo (by assumption)) (B8.hi (by assumption)) _).mono ?_; rintro e w' ⟨rfl, rfl⟩)
    | (go_at_call 305; refine (entering_any _ _ _ _).mono ?_; rintro e w' ⟨B, F, O, M, rfl, ⟨⟨c1, c2, c3⟩, hm⟩, hb⟩; have hl := look_6 hm))
  have k0 : w'.cell? ⟨w.heap.size, 0, none⟩ = some (.int .i64 1) := cell_kept (new3 w _ _ _ _).1 hb
  have k2 : w'.cell? ⟨w.heap.size, 2, none⟩ = some (.int .i64 0) := cell_kept (new3 w _ _ _ _).2.2 hb
  have hsz := hb.size
  simp only [World.size_alloc] at hsz
  have hs : w'.cell? ⟨w.heap.size, 0, none⟩ = some (.int .i64 1) ∧ w'.cell? ⟨w.heap.size, 2, none⟩ = some (.int .i64 0) ∧ w'.cell? ⟨O, 0, none⟩ = some (.bool (isM b 7)) := ⟨k0, k2, c3⟩
  have hb0 : Below w.heap.size w w' := (by repeat (first | exact Below.refl _ _ | assumption | refine bstep ?_ (by assumption) | refine Below.drew ?_ | refine Below.alloc ?_ (by first | (simp; done) | (simp; omega) | omega) _ | refine Below.setCell ?_ (by first | (simp; done) | (simp; omega) | omega) _))
  clear hb k0 k2 c1 c2 c3 hl hm d0 d1 d2 d3 d4 d5 ka
  go_region_held3 (fun w' => w'.cell? ⟨w.heap.size, 0, none⟩ = some (.int .i64 1) ∧ w'.cell? ⟨w.heap.size, 2, none⟩ = some (.int .i64 0) ∧ w'.cell? ⟨O, 0, none⟩ = some (.bool (isM b 7))) (first | go_keep | exact hold3 hb (by assumption))
    (first
    | (go_at_call 306; refine (turn_any _ _ (B8.lo (by assumption)) (B8.hi (by assumption)) _).mono ?_; rintro e w' ⟨rfl, hb⟩; have hsz := hb.size)
    | (go_at_call 335; refine (fnOne_any _).mono ?_; rintro e w' ⟨rfl, rfl⟩)
    | (go_at_call 195; refine (with_any _ _ _ (B8.lo (by assumption)) (B8.hi (by assumption)) _).mono ?_; rintro e w' ⟨rfl, rfl⟩))
  go_wp2_with fail
  go_ret3
  exact ⟨rfl, (by repeat (first | exact Below.refl _ _ | assumption | refine bstep ?_ (by assumption) | refine Below.drew ?_ | refine Below.alloc ?_ (by first | (simp; done) | (simp; omega) | omega) _ | refine Below.setCell ?_ (by first | (simp; done) | (simp; omega) | omega) _))⟩
theorem move_7 (b f : Int) (hb : B8 b) (hf : B8 f) (w : World) (hd : Courses w) :
    Calls Tryz.prog 253 #[.int .i64 7, .int .u8 b, .int .u8 f] w fun e w' => e = .returned (moved (shM 7 b f) (soutM 7 b) true) ∧ Below w.heap.size w w' := by
  have hB := hb
  clear hb
  obtain ⟨d0, d1, d2, d3, d4, d5⟩ := hd
  have ka := and1_i64 7
  simp only [show (7 : Int) % 2 = 1 by decide] at ka
  have ht : B8 (turnM b (-1)) := turnM_byte b (-1) hB.1 hB.2
  go_enter Tryz.func253, Tryz.ntmps253
  go_wp2_with (first
    | (go_at_call 258; refine (is_any _ _ (B8.lo (by assumption)) (B8.hi (by assumption)) _).mono ?_; rintro e w' ⟨rfl, rfl⟩)
    | (go_at_call 305; refine (entering_any _ _ _ _).mono ?_; rintro e w' ⟨B, F, O, M, rfl, ⟨⟨c1, c2, c3⟩, hm⟩, hb⟩; have hl := look_7 hm))
  have k0 : w'.cell? ⟨w.heap.size, 0, none⟩ = some (.int .i64 (-1)) := cell_kept (new3 w _ _ _ _).1 hb
  have k2 : w'.cell? ⟨w.heap.size, 2, none⟩ = some (.int .i64 7) := cell_kept (new3 w _ _ _ _).2.2 hb
  have hsz := hb.size
  simp only [World.size_alloc] at hsz
  have hs : w'.cell? ⟨w.heap.size, 0, none⟩ = some (.int .i64 (-1)) ∧ w'.cell? ⟨w.heap.size, 2, none⟩ = some (.int .i64 7) ∧ w'.cell? ⟨O, 0, none⟩ = some (.bool (isM b 0)) := ⟨k0, k2, c3⟩
  have hb0 : Below w.heap.size w w' := (by repeat (first | exact Below.refl _ _ | assumption | refine bstep ?_ (by assumption) | refine Below.drew ?_ | refine Below.alloc ?_ (by first | (simp; done) | (simp; omega) | omega) _ | refine Below.setCell ?_ (by first | (simp; done) | (simp; omega) | omega) _))
  clear hb k0 k2 c1 c2 c3 hl hm d0 d1 d2 d3 d4 d5 ka
  go_region_held3 (fun w' => w'.cell? ⟨w.heap.size, 0, none⟩ = some (.int .i64 (-1)) ∧ w'.cell? ⟨w.heap.size, 2, none⟩ = some (.int .i64 7) ∧ w'.cell? ⟨O, 0, none⟩ = some (.bool (isM b 0))) (first | go_keep | exact hold3 hb (by assumption))
    (first
    | (go_at_call 306; refine (turn_any _ _ (B8.lo (by assumption)) (B8.hi (by assumption)) _).mono ?_; rintro e w' ⟨rfl, hb⟩; have hsz := hb.size)
    | (go_at_call 333; refine (fnZero_any _).mono ?_; rintro e w' ⟨rfl, rfl⟩)
    | (go_at_call 195; refine (with_any _ _ _ (B8.lo (by assumption)) (B8.hi (by assumption)) _).mono ?_; rintro e w' ⟨rfl, rfl⟩))
  go_wp2_with fail
  go_ret3
  exact ⟨rfl, (by repeat (first | exact Below.refl _ _ | assumption | refine bstep ?_ (by assumption) | refine Below.drew ?_ | refine Below.alloc ?_ (by first | (simp; done) | (simp; omega) | omega) _ | refine Below.setCell ?_ (by first | (simp; done) | (simp; omega) | omega) _))⟩
theorem move_yes (k b f : Int) (h0 : 0 ≤ k) (h1 : k < 8) (hb : B8 b) (hf : B8 f) (w : World) (hd : Courses w) :
    Calls Tryz.prog 253 #[.int .i64 k, .int .u8 b, .int .u8 f] w fun e w' => e = .returned (moved (shM k b f) (soutM k b) true) ∧ Below w.heap.size w w' := by
  obtain rfl | rfl | rfl | rfl | rfl | rfl | rfl | rfl : k = 0 ∨ k = 1 ∨ k = 2 ∨ k = 3 ∨ k = 4 ∨ k = 5 ∨ k = 6 ∨ k = 7 := by omega
  · exact move_0 b f hb hf w hd
  · exact move_1 b f hb hf w hd
  · exact move_2 b f hb hf w hd
  · exact move_3 b f hb hf w hd
  · exact move_4 b f hb hf w hd
  · exact move_5 b f hb hf w hd
  · exact move_6 b f hb hf w hd
  · exact move_7 b f hb hf w hd
theorem move_no (k b f : Int) (hk : k < 0 ∨ 8 ≤ k) (hb : B8 b) (hf : B8 f) (w : World) (hd : Courses w) :
    Calls Tryz.prog 253 #[.int .i64 k, .int .u8 b, .int .u8 f] w fun e w' => e = .returned (moved 0 false false) ∧ Below w.heap.size w w' := by
  have hB := hb
  clear hb
  obtain ⟨d0, d1, d2, d3, d4, d5⟩ := hd
  have ka := and1_i64 k
  have hk := Lib.hid hk
  obtain h2 | h2 : k % 2 = 0 ∨ k % 2 = 1 := by omega
  all_goals
    rw [h2] at ka
    clear h2
    go_enter Tryz.func253, Tryz.ntmps253
    go_wp2_with (first
      | (go_at_call 258; refine (is_any _ _ (B8.lo (by assumption)) (B8.hi (by assumption)) _).mono ?_; rintro e w' ⟨rfl, rfl⟩)
      | (go_at_call 305; refine (entering_any _ _ _ _).mono ?_; rintro e w' ⟨B, F, O, M, rfl, ⟨⟨c1, c2, c3⟩, hm⟩, hb⟩; have hl := look_no hk.out hm))
    go_ret3
    have hsz := hb.size
    simp only [World.size_alloc] at hsz
    exact ⟨rfl, (by repeat (first | exact Below.refl _ _ | assumption | refine bstep ?_ (by assumption) | refine Below.drew ?_ | refine Below.alloc ?_ (by first | (simp; done) | (simp; omega) | omega) _ | refine Below.setCell ?_ (by first | (simp; done) | (simp; omega) | omega) _))⟩
end Go.Proofs.YtkenebbjodcbcaaGreatDoor
