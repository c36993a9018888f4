/- Layer 2 (flags): the walks of the four laws: each returns true and writes nothing that was there. -/
import Derived.Test.YtdjienbfaebbdaaDoorFlagsRead
namespace Go.Proofs.YtdjienbfaebbdaaDoor
open Go.RowKit
set_option linter.unusedVariables false
set_option linter.unusedSimpArgs false

theorem fawake_consts : resultM 0 = 64 ∧ resultM 255 = 168 ∧ evenFM 255 = 172 ∧ (showM 65).toList = [45, 90, 45, 45, 45, 45, 45, 67] ∧ readF ⟨#[83, 45, 45, 45, 45, 45, 45, 45]⟩ = 128 ∧ readIs ⟨#[83, 45, 45, 45, 45, 45, 45, 45]⟩ = true ∧
    testM 64 1 = true ∧ keepM 0 255 1 = 1 ∧ mkM true false false false false false false false = 128 ∧ isM 128 7 = true := by decide +kernel
attribute [local go_sem ↓] ix8_0

set_option maxHeartbeats 4000000 in
theorem fawake_any (w : World) (hm : Masks w) :
    Calls Tryd.prog 7 #[] w fun e w' => e = .returned (.bool true) ∧ Below w.heap.size w w' := by
  obtain ⟨c0, c1, c2, c3, c4, c5, c6, c7, c8, c9⟩ := fawake_consts
  have hm := Lib.hid hm
  go_enter Tryd.func7, Tryd.ntmps7
  go_wp2_with (first
    | (go_at_call 8; refine (read_any _ _).mono ?_; rintro e w' ⟨rfl, hb⟩; have hsz := hb.size)
    | (go_at_call 18; refine (result_any _ (by omega) (by omega) _).mono ?_; rintro e w' ⟨rfl, rfl⟩)
    | (go_at_call 20; refine (evenF_any _ (by omega) (by omega) _).mono ?_; rintro e w' ⟨rfl, hb⟩; have hsz := hb.size)
    | (go_at_call 14; refine (show_any _ (by omega) (by omega) _).mono ?_; rintro e w' ⟨rfl, hb⟩; have hsz := hb.size)
    | (go_at_call 16; refine (test_any _ _ (by omega) (by omega) _ (hm.out.below (by repeat (first | exact Below.refl _ _ | assumption | refine bstep ?_ (by assumption) | refine Below.drew ?_ | refine Below.alloc ?_ (by first | (simp; done) | (simp; omega) | omega) _ | refine Below.setCell ?_ (by first | (simp; done) | (simp; omega) | omega) _)))).mono ?_; rintro e w' ⟨rfl, rfl⟩)
    | (go_at_call 22; refine (keep_any _ _ _ (by omega) (by omega) (by omega) (by omega) (by omega) (by omega) _).mono ?_; rintro e w' ⟨rfl, rfl⟩)
    | (go_at_call 10; refine (make_any _ _ _ _ _ _ _ _ _).mono ?_; rintro e w' ⟨rfl, hb⟩; have hsz := hb.size)
    | (go_at_call 12; refine (of_any _ (by omega) (by omega) _).mono ?_; rintro e w' ⟨rfl, hb⟩; have hsz := hb.size))
  go_ret
  exact ⟨rfl, (by repeat (first | exact Below.refl _ _ | assumption | refine bstep ?_ (by assumption) | refine Below.drew ?_ | refine Below.alloc ?_ (by first | (simp; done) | (simp; omega) | omega) _ | refine Below.setCell ?_ (by first | (simp; done) | (simp; omega) | omega) _))⟩
set_option maxHeartbeats 4000000 in
theorem flagsTests_walk (a0 a1 a2 : Int) (h0 : 0 ≤ a0) (h0' : a0 ≤ 255) (h2 : 0 ≤ a2) (h2' : a2 ≤ 255) (w : World) (hm : Masks w) :
    Calls Tryd.prog 4 #[.int .u8 a0, .int .i64 a1, .int .u8 a2] w fun e w' => e = .returned (.bool true) ∧ Below w.heap.size w w' := by
  have hm := Lib.hid hm
  have k0 : 0 ≤ a1 % 256 := by omega
  have k1 : a1 % 256 ≤ 255 := by omega
  go_enter Tryd.func4, Tryd.ntmps4
  go_wp2_with (first
    | (go_at_call 7; refine (fawake_any _ hm.out).mono ?_; rintro e w' ⟨rfl, hb⟩; have hsz := hb.size)
    | (go_at_call 16; refine (test_any _ _ h0 h0' _ (hm.out.below (by repeat (first | exact Below.refl _ _ | assumption | refine bstep ?_ (by assumption) | refine Below.drew ?_ | refine Below.alloc ?_ (by first | (simp; done) | (simp; omega) | omega) _ | refine Below.setCell ?_ (by first | (simp; done) | (simp; omega) | omega) _)))).mono ?_; rintro e w' ⟨rfl, rfl⟩)
    | (go_at_call 17; refine (rtest_any _ _ h0 h0' _).mono ?_; rintro e w' ⟨rfl, hb⟩; have hsz := hb.size)
    | (go_at_call 18; refine (result_any _ h0 h0' _).mono ?_; rintro e w' ⟨rfl, rfl⟩)
    | (go_at_call 19; refine (rresult_any _ h0 h0' _).mono ?_; rintro e w' ⟨rfl, hb⟩; have hsz := hb.size)
    | (go_at_call 20; refine (evenF_any _ h0 h0' _).mono ?_; rintro e w' ⟨rfl, hb⟩; have hsz := hb.size)
    | (go_at_call 21; refine (revenF_any _ h0 h0' _).mono ?_; rintro e w' ⟨rfl, hb⟩; have hsz := hb.size)
    | (go_at_call 22; refine (keep_any _ _ _ h0 h0' k0 k1 h2 h2' _).mono ?_; rintro e w' ⟨rfl, rfl⟩)
    | (go_at_call 23; refine (rkeep_any _ _ _ h0 h0' k0 k1 h2 h2' _).mono ?_; rintro e w' ⟨rfl, hb⟩; have hsz := hb.size))
  go_ret
  exact ⟨rfl, (by repeat (first | exact Below.refl _ _ | assumption | refine bstep ?_ (by assumption) | refine Below.drew ?_ | refine Below.alloc ?_ (by first | (simp; done) | (simp; omega) | omega) _ | refine Below.setCell ?_ (by first | (simp; done) | (simp; omega) | omega) _))⟩
theorem keep8 {w w' : World} {B : Nat} {v0 v1 v2 v3 v4 v5 v6 v7 : Value} (k : Below w.heap.size w w') (h : w.cell? ⟨B, 0, none⟩ = some (v0) ∧ w.cell? ⟨B, 1, none⟩ = some (v1) ∧ w.cell? ⟨B, 2, none⟩ = some (v2) ∧ w.cell? ⟨B, 3, none⟩ = some (v3) ∧ w.cell? ⟨B, 4, none⟩ = some (v4) ∧ w.cell? ⟨B, 5, none⟩ = some (v5) ∧ w.cell? ⟨B, 6, none⟩ = some (v6) ∧ w.cell? ⟨B, 7, none⟩ = some (v7)) :
    w'.cell? ⟨B, 0, none⟩ = some (v0) ∧ w'.cell? ⟨B, 1, none⟩ = some (v1) ∧ w'.cell? ⟨B, 2, none⟩ = some (v2) ∧ w'.cell? ⟨B, 3, none⟩ = some (v3) ∧ w'.cell? ⟨B, 4, none⟩ = some (v4) ∧ w'.cell? ⟨B, 5, none⟩ = some (v5) ∧ w'.cell? ⟨B, 6, none⟩ = some (v6) ∧ w'.cell? ⟨B, 7, none⟩ = some (v7) := by
  obtain ⟨h0, h1, h2, h3, h4, h5, h6, h7⟩ := h
  exact ⟨(k.cell (World.block_lt_of_cell? _ _ h0)).trans h0, (k.cell (World.block_lt_of_cell? _ _ h1)).trans h1, (k.cell (World.block_lt_of_cell? _ _ h2)).trans h2, (k.cell (World.block_lt_of_cell? _ _ h3)).trans h3, (k.cell (World.block_lt_of_cell? _ _ h4)).trans h4, (k.cell (World.block_lt_of_cell? _ _ h5)).trans h5, (k.cell (World.block_lt_of_cell? _ _ h6)).trans h6, (k.cell (World.block_lt_of_cell? _ _ h7)).trans h7⟩
theorem eqItems_same {P : Program} {e : TypeId} (he : P.plainKey e = true) {xs : Array Value} {w : World} {d : Nat} : ∀ is : List Nat, (∀ i ∈ is, ∃ v, xs[i]? = some v ∧ (Op.equalIn d e v v).run P w = .ok true w) → (Op.eqItems d e 1 xs xs is).run P w = .ok true w
  | [], _ => by simp [Op.eqItems]
  | i :: is, h => by
    obtain ⟨v, hv, hq⟩ := h i (by simp)
    have hp := run_part_plain w he hv
    simp only [Op.eqItems, Sem.run_bind, Nat.mul_one, hp, hq, Result.andThen_ok]
    simpa using eqItems_same he is (fun j hj => h j (by simp [hj]))
theorem eq8_same (b0 b1 b2 b3 b4 b5 b6 b7 : Bool) (w : World) : (Op.equalIn 10000 22 (v8 b0 b1 b2 b3 b4 b5 b6 b7) (v8 b0 b1 b2 b3 b4 b5 b6 b7)).run Tryd.prog w = .ok true w := by
  obtain ⟨i, hi⟩ : ∃ i, Tryd.prog.info? 4 = some i := Option.isSome_iff_exists.1 (by kernel_rfl)
  rw [run_equalIn_array (w := w) 9999 _ _ Tryd.underlying22 hi, show Tryd.prog.cellsOf 4 = 1 by kernel_rfl]
  refine eqItems_same (by kernel_rfl) _ (fun j hj => ?_)
  refine ⟨.bool ([b0, b1, b2, b3, b4, b5, b6, b7].getD j false), ?_, ?_⟩
  · exact nat8 (fun j => (#[Value.bool b0, .bool b1, .bool b2, .bool b3, .bool b4, .bool b5, .bool b6, .bool b7] : Array Value)[j]? = some (.bool ([b0, b1, b2, b3, b4, b5, b6, b7].getD j false))) ⟨rfl, rfl, rfl, rfl, rfl, rfl, rfl, rfl⟩ j (by simpa using hj)
  · rw [run_equalIn_bool' w 9998 4 _ _ Tryd.underlying4]
    simp
theorem ArrIs.cells8 {w : World} {B : Nat} {b0 b1 b2 b3 b4 b5 b6 b7 : Bool} (h : ArrIs w B 8 (fun j => .bool ([b0, b1, b2, b3, b4, b5, b6, b7].getD j false))) :
    w.cell? ⟨B, 0, none⟩ = some (.bool b0) ∧ w.cell? ⟨B, 1, none⟩ = some (.bool b1) ∧ w.cell? ⟨B, 2, none⟩ = some (.bool b2) ∧ w.cell? ⟨B, 3, none⟩ = some (.bool b3) ∧ w.cell? ⟨B, 4, none⟩ = some (.bool b4) ∧ w.cell? ⟨B, 5, none⟩ = some (.bool b5) ∧ w.cell? ⟨B, 6, none⟩ = some (.bool b6) ∧ w.cell? ⟨B, 7, none⟩ = some (.bool b7) :=
  ⟨(h 0 (by omega)).1, (h 1 (by omega)).1, (h 2 (by omega)).1, (h 3 (by omega)).1, (h 4 (by omega)).1, (h 5 (by omega)).1, (h 6 (by omega)).1, (h 7 (by omega)).1⟩
theorem arr_v8 (w' w : World) (b0 b1 b2 b3 b4 b5 b6 b7 : Bool) (t : TypeId) (hb : Below (w.alloc (.cells #[.bool b0, .bool b1, .bool b2, .bool b3, .bool b4, .bool b5, .bool b6, .bool b7] t)).heap.size (w.alloc (.cells #[.bool b0, .bool b1, .bool b2, .bool b3, .bool b4, .bool b5, .bool b6, .bool b7] t)) w') :
    ArrIs w' w.heap.size 8 (fun j => .bool ([b0, b1, b2, b3, b4, b5, b6, b7].getD j false)) :=
  (ArrIs.new w _ t 0 0 _ 8 (.inr rfl) (fun j hj => nat8 (fun j => (#[Value.bool b0, .bool b1, .bool b2, .bool b3, .bool b4, .bool b5, .bool b6, .bool b7] : Array Value)[j]? = some (.bool ([b0, b1, b2, b3, b4, b5, b6, b7].getD j false))) ⟨rfl, rfl, rfl, rfl, rfl, rfl, rfl, rfl⟩ j hj)).kept hb
theorem keepM_facts (f o m : Int) (hf : B8 f) (ho : B8 o) : keepM f o 0 = f ∧ keepM f o 255 = o ∧ keepM (keepM f o m) o m = keepM f o m ∧ keepM (keepM f o m) f m = f := by
  refine ⟨?_, ?_, ?_, ?_⟩
  · have e := mkM_of f hf
    obtain ⟨z0, z1, z2, z3, z4, z5, z6, z7⟩ : isM 0 0 = false ∧ isM 0 1 = false ∧ isM 0 2 = false ∧ isM 0 3 = false ∧ isM 0 4 = false ∧ isM 0 5 = false ∧ isM 0 6 = false ∧ isM 0 7 = false := by decide +kernel
    unfold keepM
    simpa [sel, z0, z1, z2, z3, z4, z5, z6, z7] using e
  · have e := mkM_of o ho
    obtain ⟨z0, z1, z2, z3, z4, z5, z6, z7⟩ : isM 255 0 = true ∧ isM 255 1 = true ∧ isM 255 2 = true ∧ isM 255 3 = true ∧ isM 255 4 = true ∧ isM 255 5 = true ∧ isM 255 6 = true ∧ isM 255 7 = true := by decide +kernel
    unfold keepM
    simpa [sel, z0, z1, z2, z3, z4, z5, z6, z7] using e
  · have s2 : ∀ m a b : Bool, sel m (sel m a b) b = sel m a b := by decide
    conv => lhs; unfold keepM
    unfold keepM
    obtain ⟨m0, m1, m2, m3, m4, m5, m6, m7⟩ := of_mkM (sel (isM m 7) (isM f 7) (isM o 7)) (sel (isM m 6) (isM f 6) (isM o 6)) (sel (isM m 5) (isM f 5) (isM o 5)) (sel (isM m 4) (isM f 4) (isM o 4))
      (sel (isM m 3) (isM f 3) (isM o 3)) (sel (isM m 2) (isM f 2) (isM o 2)) (sel (isM m 1) (isM f 1) (isM o 1)) (sel (isM m 0) (isM f 0) (isM o 0))
    rw [m0, m1, m2, m3, m4, m5, m6, m7]
    simp only [s2]
  · have s2 : ∀ m a b : Bool, sel m (sel m a b) a = a := by decide
    have e := mkM_of f hf
    unfold keepM
    obtain ⟨m0, m1, m2, m3, m4, m5, m6, m7⟩ := of_mkM (sel (isM m 7) (isM f 7) (isM o 7)) (sel (isM m 6) (isM f 6) (isM o 6)) (sel (isM m 5) (isM f 5) (isM o 5)) (sel (isM m 4) (isM f 4) (isM o 4))
      (sel (isM m 3) (isM f 3) (isM o 3)) (sel (isM m 2) (isM f 2) (isM o 2)) (sel (isM m 1) (isM f 1) (isM o 1)) (sel (isM m 0) (isM f 0) (isM o 0))
    rw [m0, m1, m2, m3, m4, m5, m6, m7]
    simp only [s2]
    exact e
theorem res_fin : ∀ x : Fin 256, bits .and .u8 (resultM (x.val : Int)) 23 = 0 ∧ bits .and .u8 (evenFM (x.val : Int)) 19 = 0 ∧ bits .and .u8 (evenFM (x.val : Int)) 251 = resultM (x.val : Int) ∧ testM (resultM (x.val : Int)) 1 = ((x.val : Int) == 0) := by decide +kernel
theorem res_all (f : Int) (h0 : 0 ≤ f) (h1 : f ≤ 255) : bits .and .u8 (resultM f) 23 = 0 ∧ bits .and .u8 (evenFM f) 19 = 0 ∧ bits .and .u8 (evenFM f) 251 = resultM f ∧ testM (resultM f) 1 = (f == 0) :=
  byte_all (P := fun f => bits .and .u8 (resultM f) 23 = 0 ∧ bits .and .u8 (evenFM f) 19 = 0 ∧ bits .and .u8 (evenFM f) 251 = resultM f ∧ testM (resultM f) 1 = (f == 0)) res_fin f h0 h1
set_option maxHeartbeats 4000000 in
theorem flagsKeeps_walk (a0 a1 a2 : Int) (h0 : 0 ≤ a0) (h0' : a0 ≤ 255) (h1 : 0 ≤ a1) (h1' : a1 ≤ 255) (h2 : 0 ≤ a2) (h2' : a2 ≤ 255) (w : World) (hm : Masks w) :
    Calls Tryd.prog 6 #[.int .u8 a0, .int .u8 a1, .int .u8 a2] w fun e w' => e = .returned (.bool true) ∧ Below w.heap.size w w' := by
  have hm := Lib.hid hm
  obtain ⟨k1, k2, k3, k4⟩ := keepM_facts a0 a1 a2 ⟨h0, h0'⟩ ⟨h1, h1'⟩
  obtain ⟨r1, r2, r3, r4⟩ := res_all a0 h0 h0'
  obtain ⟨b0, b1⟩ := keepM_byte a0 a1 a2
  obtain ⟨c0, c1⟩ := resultM_byte a0
  obtain ⟨d0, d1⟩ := evenFM_byte a0
  go_enter Tryd.func6, Tryd.ntmps6
  go_wp2_with (first
    | (go_at_call 7; refine (fawake_any _ hm.out).mono ?_; rintro e w' ⟨rfl, hb⟩; have hsz := hb.size)
    | (go_at_call 16; refine (test_any _ _ c0 c1 _ (hm.out.below (by repeat (first | exact Below.refl _ _ | assumption | refine bstep ?_ (by assumption) | refine Below.drew ?_ | refine Below.alloc ?_ (by first | (simp; done) | (simp; omega) | omega) _ | refine Below.setCell ?_ (by first | (simp; done) | (simp; omega) | omega) _)))).mono ?_; rintro e w' ⟨rfl, rfl⟩)
    | (go_at_call 18; refine (result_any _ h0 h0' _).mono ?_; rintro e w' ⟨rfl, rfl⟩)
    | (go_at_call 20; refine (evenF_any _ h0 h0' _).mono ?_; rintro e w' ⟨rfl, hb⟩; have hsz := hb.size)
    | (go_at_call 22; refine (keep_any _ _ _ (by omega) (by omega) (by omega) (by omega) (by omega) (by omega) _).mono ?_; rintro e w' ⟨rfl, rfl⟩))
  go_ret
  exact ⟨rfl, (by repeat (first | exact Below.refl _ _ | assumption | refine bstep ?_ (by assumption) | refine Below.drew ?_ | refine Below.alloc ?_ (by first | (simp; done) | (simp; omega) | omega) _ | refine Below.setCell ?_ (by first | (simp; done) | (simp; omega) | omega) _))⟩
set_option maxHeartbeats 4000000 in
theorem flagsMakes_walk (b0 b1 b2 b3 b4 b5 b6 b7 : Bool) (f : Int) (s : ByteArray) (h0 : 0 ≤ f) (h1 : f ≤ 255) (w : World) (hm : Masks w) :
    Calls Tryd.prog 3 #[v8 b0 b1 b2 b3 b4 b5 b6 b7, .int .u8 f, .string s] w fun e w' => e = .returned (.bool true) ∧ Below w.heap.size w w' := by
  have hm := Lib.hid hm
  by_cases hs : s.size ≤ 50
  · go_enter Tryd.func3, Tryd.ntmps3
    go_wp2_with fail
    refine (fawake_any _ (hm.out.below (by repeat (first | exact Below.refl _ _ | assumption | refine bstep ?_ (by assumption) | refine Below.drew ?_ | refine Below.alloc ?_ (by first | (simp; done) | (simp; omega) | omega) _ | refine Below.setCell ?_ (by first | (simp; done) | (simp; omega) | omega) _)))).mono ?_
    rintro e w1 ⟨rfl, hb1⟩
    have hbel : Below w.heap.size w w1 := (((Below.refl _ w).alloc (Nat.le_refl _) _).trans (hb1.mono (by simp)))
    have r1 := Lib.hid (arr_v8 w1 w b0 b1 b2 b3 b4 b5 b6 b7 _ hb1)
    clear hb1
    go_wp2_with fail
    refine (read_any _ _).mono ?_
    rintro e w2 ⟨rfl, hb2⟩
    have r2 := Lib.hid (r1.out.kept hb2)
    have hbel := bstep hbel hb2
    clear r1 hb2
    go_wp2_with fail
    refine (rread_any _ _).mono ?_
    rintro e w3 ⟨rfl, hb3⟩
    have hQ := (r2.out.kept hb3).cells8
    have hEq := eq8_same (isM f 7) (isM f 6) (isM f 5) (isM f 4) (isM f 3) (isM f 2) (isM f 1) (isM f 0)
    have hbel := bstep hbel hb3
    clear r2 hb3
    go_wp2_with fail
    go_region_held3 (fun w' => w'.cell? ⟨w.heap.size, 0, none⟩ = some (.bool b0) ∧ w'.cell? ⟨w.heap.size, 1, none⟩ = some (.bool b1) ∧ w'.cell? ⟨w.heap.size, 2, none⟩ = some (.bool b2) ∧ w'.cell? ⟨w.heap.size, 3, none⟩ = some (.bool b3) ∧ w'.cell? ⟨w.heap.size, 4, none⟩ = some (.bool b4) ∧ w'.cell? ⟨w.heap.size, 5, none⟩ = some (.bool b5) ∧ w'.cell? ⟨w.heap.size, 6, none⟩ = some (.bool b6) ∧ w'.cell? ⟨w.heap.size, 7, none⟩ = some (.bool b7)) (first | go_keep | exact keep8 hb (by assumption))
      (first
      | (go_at_call 10; refine (make_any _ _ _ _ _ _ _ _ _).mono ?_; rintro e w' ⟨rfl, hb⟩; have hsz := hb.size)
      | (go_at_call 11; refine (rmake_any _ _ _ _ _ _ _ _ _).mono ?_; rintro e w' ⟨rfl, hb⟩; have hsz := hb.size)
      | (go_at_call 12; refine (of_any _ h0 h1 _).mono ?_; rintro e w' ⟨rfl, hb⟩; have hsz := hb.size)
      | (go_at_call 13; refine (rof_any _ h0 h1 _).mono ?_; rintro e w' ⟨rfl, hb⟩; have hsz := hb.size)
      | (go_at_call 14; refine (show_any _ h0 h1 _).mono ?_; rintro e w' ⟨rfl, hb⟩; have hsz := hb.size)
      | (go_at_call 15; refine (rshow_any _ h0 h1 _).mono ?_; rintro e w' ⟨rfl, hb⟩; have hsz := hb.size))
    all_goals
      go_wp2
      go_ret
      exact ⟨rfl, (by repeat (first | exact Below.refl _ _ | assumption | refine bstep ?_ (by assumption) | refine Below.drew ?_ | refine Below.alloc ?_ (by first | (simp; done) | (simp; omega) | omega) _ | refine Below.setCell ?_ (by first | (simp; done) | (simp; omega) | omega) _))⟩
  · have hs : 50 < s.size := by omega
    go_enter Tryd.func3, Tryd.ntmps3
    go_wp2_with (first
      | (go_at_call 7; refine (fawake_any _ (hm.out.below (by repeat (first | exact Below.refl _ _ | assumption | refine bstep ?_ (by assumption) | refine Below.drew ?_ | refine Below.alloc ?_ (by first | (simp; done) | (simp; omega) | omega) _ | refine Below.setCell ?_ (by first | (simp; done) | (simp; omega) | omega) _)))).mono ?_; rintro e w' ⟨rfl, hb⟩; have hsz := hb.size))
    go_ret
    exact ⟨rfl, (by repeat (first | exact Below.refl _ _ | assumption | refine bstep ?_ (by assumption) | refine Below.drew ?_ | refine Below.alloc ?_ (by first | (simp; done) | (simp; omega) | omega) _ | refine Below.setCell ?_ (by first | (simp; done) | (simp; omega) | omega) _))⟩
theorem pair_not (f : Int) : (testM f 0 == testM f 1) = false ∧ (testM f 2 == testM f 3) = false ∧ (testM f 4 == testM f 5) = false ∧ (testM f 6 == testM f 7) = false := by
  refine ⟨?_, ?_, ?_, ?_⟩
  · cases h : isM f 6 <;> simp [testM, h]
  · cases h : isM f 0 <;> simp [testM, h]
  · cases h : isM f 2 <;> simp [testM, h]
  · cases h : isM f 7 <;> simp [testM, h]
set_option maxHeartbeats 8000000 in
theorem flagsBack_walk (b0 b1 b2 b3 b4 b5 b6 b7 : Bool) (f : Int) (h0 : 0 ≤ f) (h1 : f ≤ 255) (w : World) (hm : Masks w) :
    Calls Tryd.prog 5 #[v8 b0 b1 b2 b3 b4 b5 b6 b7, .int .u8 f] w fun e w' => e = .returned (.bool true) ∧ Below w.heap.size w w' := by
  have hm := Lib.hid hm
  go_enter Tryd.func5, Tryd.ntmps5
  go_wp2_with fail
  refine (fawake_any _ (hm.out.below (by repeat (first | exact Below.refl _ _ | assumption | refine bstep ?_ (by assumption) | refine Below.drew ?_ | refine Below.alloc ?_ (by first | (simp; done) | (simp; omega) | omega) _ | refine Below.setCell ?_ (by first | (simp; done) | (simp; omega) | omega) _)))).mono ?_
  rintro e w1 ⟨rfl, hb1⟩
  have hbel : Below w.heap.size w w1 := (((Below.refl _ w).alloc (Nat.le_refl _) _).trans (hb1.mono (by simp)))
  have r1 := Lib.hid (arr_v8 w1 w b0 b1 b2 b3 b4 b5 b6 b7 _ hb1)
  clear hb1
  go_wp2_with fail
  refine (show_any _ h0 h1 _).mono ?_
  rintro e w2 ⟨rfl, hb2⟩
  have r2 := Lib.hid (r1.out.kept hb2)
  have hbel := bstep hbel hb2
  clear r1 hb2
  go_wp2_with fail
  refine (read_any _ _).mono ?_
  obtain ⟨rs1, rs2⟩ := read_show f h0 h1
  rw [rs1, rs2]
  rintro e w3 ⟨rfl, hb3⟩
  have hQ := (r2.out.kept hb3).cells8
  have hbel := bstep hbel hb3
  have hm3 := Lib.hid (hm.out.below hbel)
  clear r2 hb3 hm rs1 rs2
  obtain ⟨n0, n1, n2, n3⟩ := pair_not f
  go_wp2_with fail
  refine wp_loop_rounds 5 ?_
  iterate 5 (rw [rounds_succ]; go_wp2_with (first
    | (go_at_call 16; refine (test_any _ _ h0 h1 _ hm3.out).mono ?_; rintro e w' ⟨rfl, rfl⟩)))
  clear n0 n1 n2 n3
  obtain ⟨m0, m1, m2, m3, m4, m5, m6, m7⟩ := of_mkM b0 b1 b2 b3 b4 b5 b6 b7
  have mb := mkM_byte b0 b1 b2 b3 b4 b5 b6 b7
  have mb0 := mb.lo
  have mb1 := mb.hi
  clear mb
  have hEq := eq8_same b0 b1 b2 b3 b4 b5 b6 b7
  have hMk := mkM_of f ⟨h0, h1⟩
  have hSz : (showM f).size = 8 := rfl
  go_region_held3 (fun w' => w'.cell? ⟨w.heap.size, 0, none⟩ = some (.bool b0) ∧ w'.cell? ⟨w.heap.size, 1, none⟩ = some (.bool b1) ∧ w'.cell? ⟨w.heap.size, 2, none⟩ = some (.bool b2) ∧ w'.cell? ⟨w.heap.size, 3, none⟩ = some (.bool b3) ∧ w'.cell? ⟨w.heap.size, 4, none⟩ = some (.bool b4) ∧ w'.cell? ⟨w.heap.size, 5, none⟩ = some (.bool b5) ∧ w'.cell? ⟨w.heap.size, 6, none⟩ = some (.bool b6) ∧ w'.cell? ⟨w.heap.size, 7, none⟩ = some (.bool b7)) (first | go_keep | exact keep8 hb (by assumption))
    (first
    | (go_at_call 10; refine (make_any _ _ _ _ _ _ _ _ _).mono ?_; rintro e w' ⟨rfl, hb⟩; have hsz := hb.size)
    | (go_at_call 12; refine (of_any _ (by assumption) (by assumption) _).mono ?_; rintro e w' ⟨rfl, hb⟩; have hsz := hb.size; (try simp only [m0, m1, m2, m3, m4, m5, m6, m7]))
    | (go_at_call 14; refine (show_any _ h0 h1 _).mono ?_; rintro e w' ⟨rfl, hb⟩; have hsz := hb.size))
  all_goals
    go_wp2
    go_ret
    exact ⟨rfl, (by repeat (first | exact Below.refl _ _ | assumption | refine bstep ?_ (by assumption) | refine Below.drew ?_ | refine Below.alloc ?_ (by first | (simp; done) | (simp; omega) | omega) _ | refine Below.setCell ?_ (by first | (simp; done) | (simp; omega) | omega) _))⟩
end Go.Proofs.YtdjienbfaebbdaaDoor
